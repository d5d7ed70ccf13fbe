import PyProof.Rows.All
import Wide.All
import OpenK.AllK
import Wide.FinOn
import Lean
import PyProof.EqAt
import PyProof.EqKinds
import PyProof.TupleCall
import PyProof.NeKinds
import KE.KSortKey
import KE.KMinKey
import PyProof.StrBlockG
import PyProof.StrBlockI
import KE.KRevSl
import PyProof.MeetsStr
import KE.KLam
import KE.KNestM
import PyProof.Rows.ZipForRows
import PyProof.Rows.FactsT2
import PyProof.StrOps2
import PyProof.Rows.SumAny
import KE.KDictSum
import PyProof.WalkInts
import PyProof.Rows.MinMaxN
import PyProof.TupleKey
import PyProof.DictRoadsH
import KE.KDictIter
import PyProof.ListRange
import PyProof.DictUpdate
import KE.KDictList
import PyProof.Rows.Range3
import KE.KRevIter
import PyProof.FactsAll.range
import PyProof.StrLawsIn
import PyProof.ListMulRoad
import PySem.Challenge.RW_tonguenest_k12_whole_free_readings
set_option Elab.async false
set_option linter.all false
set_option maxRecDepth 100000
-- CHANGE: your row's module here, as the last of these rows
namespace L2
open PySem PySem.Spec PyProof.Rows
abbrev Key := Sum Int Str
def keyIs : Key → Value → Bool
  | .inl k, v => Value.isInt k v
  | .inr x, v => Value.isStrOf x v
def keyH (w : World) : Key → Int
  | .inl k => hashInt k
  | .inr x => hashStr w x
theorem keyIs_shape : ∀ {k : Key} {v : Value}, keyIs k v = true → (∃ i t, k = Sum.inl i ∧ v = Value.int i t) ∨ (∃ x t, k = Sum.inr x ∧ v = Value.str x t)
  | .inl i, v, h => by
    obtain ⟨t, e⟩ := Value.isInt_shape (k := i) (v := v) h
    exact .inl ⟨i, t, rfl, e⟩
  | .inr x, v, h => by
    obtain ⟨t, e⟩ := Value.isStrOf_shape (x := x) (v := v) h
    exact .inr ⟨x, t, rfl, e⟩
theorem keyIs_int (i : Int) (t : Tok) : keyIs (.inl i) (.int i t) = true := by simp [keyIs, Value.isInt]
theorem keyIs_str (x : Str) (t : Tok) : keyIs (.inr x) (.str x t) = true := by simp [keyIs, Value.isStrOf]
theorem key_ll (a b : Int) : decide ((Sum.inl a : Key) = Sum.inl b) = (a == b) := by
  by_cases e : a = b
  · subst e; simp
  · have h : ¬ (Sum.inl a : Key) = Sum.inl b := fun q => e (Sum.inl.inj q)
    rw [decide_eq_false h]
    exact (beq_eq_false_iff_ne.mpr e).symm
theorem key_rr (a b : Str) : decide ((Sum.inr a : Key) = Sum.inr b) = decide (a = b) := by
  by_cases e : a = b
  · subst e; simp
  · have h : ¬ (Sum.inr a : Key) = Sum.inr b := fun q => e (Sum.inr.inj q)
    rw [decide_eq_false h, decide_eq_false e]
theorem key_lr (a : Int) (b : Str) : decide ((Sum.inl a : Key) = Sum.inr b) = false := decide_eq_false (fun q => nomatch q)
theorem key_rl (a : Str) (b : Int) : decide ((Sum.inr a : Key) = Sum.inl b) = false := decide_eq_false (fun q => nomatch q)
def mixKind (prog : Program) (w : World) : PySem.KeyKind prog w Key where
  is := keyIs
  hash := keyH w
  inj := fun v a b ha hb => by
    rcases keyIs_shape ha with ⟨i, t, rfl, rfl⟩ | ⟨x, t, rfl, rfl⟩
    · rcases keyIs_shape hb with ⟨j, u, rfl, e⟩ | ⟨y, u, rfl, e⟩
      · injection e with e1 _; rw [e1]
      · exact nomatch e
    · rcases keyIs_shape hb with ⟨j, u, rfl, e⟩ | ⟨y, u, rfl, e⟩
      · exact nomatch e
      · injection e with e1 _; rw [e1]
  byValue := fun k v h => by
    rcases keyIs_shape h with ⟨i, t, rfl, rfl⟩ | ⟨x, t, rfl, rfl⟩ <;> rfl
  pyHash := fun hv h => by
    rcases keyIs_shape hv with ⟨i, t, rfl, rfl⟩ | ⟨x, t, rfl, rfl⟩
    · exact wpAny_pyHash_int h
    · exact wpAny_pyHash_str h
  eqBool := fun hu hv h => by
    rcases keyIs_shape hu with ⟨i, t, rfl, rfl⟩ | ⟨x, t, rfl, rfl⟩
    · rcases keyIs_shape hv with ⟨j, u, rfl, rfl⟩ | ⟨y, u, rfl, rfl⟩
      · rw [key_ll] at h; exact wpAny_eqBool_int h
      · rw [key_lr] at h; exact SeqAt.EqAt.int_str i t y u _ _ _ _ h
    · rcases keyIs_shape hv with ⟨j, u, rfl, rfl⟩ | ⟨y, u, rfl, rfl⟩
      · rw [key_rl] at h; exact SeqAt.EqAt.str_int x t j u _ _ _ _ h
      · rw [key_rr] at h; exact wpAny_eqBool_str h
  «strs» := fun k x t v h => by
    rcases keyIs_shape h with ⟨i, u, rfl, e⟩ | ⟨y, u, rfl, e⟩
    · exact nomatch e
    · injection e with e1 _
      subst e1
      cases v <;> rfl
theorem mixKind_int (prog : Program) (w : World) (i : Int) (t : Tok) : (mixKind prog w).is (.inl i) (.int i t) = true := keyIs_int i t
theorem mixKind_str (prog : Program) (w : World) (x : Str) (t : Tok) : (mixKind prog w).is (.inr x) (.str x t) = true := keyIs_str x t
end L2
namespace L2
open PySem PySem.Spec PyProof.Rows
inductive V where
  | non | bl (b : Bool) | int (i : Int) | str (x : Str) | byt (b : Array UInt8) | flt (b : UInt64) | ref (a : Addr) | ty (n : String)
  deriving DecidableEq
def RelV : V → Value → Prop
  | .non, u => u = Value.none
  | .bl b, u => u = Value.bool b
  | .int i, u => ∃ t, u = Value.int i t
  | .str x, u => ∃ t, u = Value.str x t
  | .byt b, u => ∃ t, u = Value.bytes b t
  | .flt b, u => ∃ t, u = Value.float b t
  | .ref a, u => u = Value.ref a
  | .ty n, u => u = Value.type n
abbrev Vals : List V → List Value → Prop := Paired RelV
theorem Vals.length {xs : List V} {us : List Value} (r : Vals xs us) : xs.length = us.length := Paired.length r
theorem Vals.get : ∀ {xs : List V} {us : List Value} {i : Nat} {x : V}, Vals xs us → xs[i]? = some x → ∃ u, us[i]? = some u ∧ RelV x u
  | _, _, _, _, .nil, e => by simp at e
  | _, _, 0, _, .cons r _, e => by simp at e; subst e; exact ⟨_, rfl, r⟩
  | _, _, i + 1, x, .cons _ t, e => by
    obtain ⟨u, h1, h2⟩ := Vals.get (i := i) (x := x) t (by simpa using e)
    exact ⟨u, by simpa using h1, h2⟩
theorem Vals.set {x : V} {u : Value} (r : RelV x u) : ∀ {xs : List V} {us : List Value} (i : Nat), Vals xs us → Vals (xs.set i x) (us.set i u)
  | _, _, _, .nil => .nil
  | _, _, 0, .cons _ t => .cons r t
  | _, _, i + 1, .cons q t => .cons q (Vals.set r i t)
theorem Vals.append : ∀ {xs ys : List V} {us ws : List Value}, Vals xs us → Vals ys ws → Vals (xs ++ ys) (us ++ ws)
  | _, _, _, _, .nil, s => s
  | _, _, _, _, .cons r t, s => .cons r (Vals.append t s)
theorem Vals.take : ∀ {xs : List V} {us : List Value} (n : Nat), Vals xs us → Vals (xs.take n) (us.take n)
  | _, _, 0, _ => .nil
  | _, _, _ + 1, .nil => .nil
  | _, _, n + 1, .cons r t => .cons r (Vals.take n t)
theorem Vals.drop : ∀ {xs : List V} {us : List Value} (n : Nat), Vals xs us → Vals (xs.drop n) (us.drop n)
  | _, _, 0, r => r
  | _, _, _ + 1, .nil => .nil
  | _, _, n + 1, .cons _ t => Vals.drop n t
def RelO : Option V → Option Value → Prop
  | some v, some u => RelV v u
  | none, none => True
  | _, _ => False
def KV {κ : Type} : List (κ × V) → List (κ × Value) → Prop := Paired fun (p : κ × V) (q : κ × Value) => p.1 = q.1 ∧ RelV p.2 q.2
def kV : Key → V
  | .inl i => .int i
  | .inr x => .str x
inductive HO where
  /-- a list -/
  | lst (xs : List V)
  /-- a tuple (never changes) -/
  | tup (xs : List V)
  /-- a dict whose keys are ints and texts; one whose keys are tuples of ints and texts (the empty one is both) -/
  | dK (kvs : List (Key × V)) | dT (kvs : List (List Key × V))
  /-- a set of ints: its members, its size -/
  | set (S : Int → Bool) (n : Nat)
  /-- an instance of the class at C, its dict at dx, its attributes -/
  | ins (C dx : Addr) (fs : List (Str × V))
  /-- the dict of the instance at x -/
  | own (x : Addr)
  /-- the dict of an exception -/
  | xd (fs : List (Str × V))
  /-- a bound method, f of x -/
  | met (f x : Addr)
  /-- a range object lo, lo + 1, .. below hi -/
  | rng (lo hi : Int)
  /-- a thing that is known to the object (the script; a dict while a loop walks it): read, never written while it is so -/
  | frz (o : Obj) (u : HO)
  /-- a code object's table -/
  | tbl (ps : Array Value)
  /-- any other thing, by what is true of its one object (a def of one's own: SetO a S n := HO.ext fun h => ..) -/
  | ext (φ : Heap → Prop)
abbrev Hp := Addr → Option HO
def upd (H : Hp) (a : Addr) (o : HO) : Hp := fun b => if b = a then some o else H b
theorem upd_same {H : Hp} {a : Addr} {o : HO} : upd H a o a = some o := by unfold upd; rw [if_pos rfl]
theorem upd_ne {H : Hp} {a b : Addr} {o : HO} (h : b ≠ a) : upd H a o b = H b := by unfold upd; rw [if_neg h]
theorem ne_of {H : Hp} {a b : Addr} {o u : HO} (h : H a = some o) (h' : H b = some u) (d : o ≠ u) : a ≠ b := by
  intro e; subst e; rw [h] at h'; exact d (Option.some.inj h')
theorem ne_of_none {H : Hp} {a b : Addr} {o : HO} (h : H a = some o) (h' : H b = none) : a ≠ b := by
  intro e; subst e; rw [h] at h'; cases h'
section
variable (P : Program) (w : World)
def ObjOk (H : Hp) (h : Heap) (a : Addr) : HO → Prop
  | .lst xs => xs.length ≤ sizeLine ∧ ∃ (its : List Value) (n : Nat), Vals xs its ∧ h.get? a = some { cls := .type "list", data := .seq its.toArray n }
  | .tup xs => xs.length ≤ sizeLine ∧ ∃ its : List Value, Vals xs its ∧ IsTup h a its.toArray
  | .dK kvs => kvs.length ≤ sizeLine ∧ (a == sysModules) = false ∧ ∃ vs, KV kvs vs ∧ h.DictOf (mixKind P w) a vs
  | .dT kvs => kvs.length ≤ sizeLine ∧ (a == sysModules) = false ∧ ∃ xs : List (List Key × Addr × Value),
      Paired (fun (p : List Key × V) (q : List Key × Addr × Value) => p.1 = q.1 ∧ H q.2.1 = some (.tup (p.1.map kV)) ∧ RelV p.2 q.2.2) kvs xs ∧
      ∃ o es ep, h.get? a = some o ∧ o.ExactDict ∧ o.data = .dict es ep ∧ es.toList = xs.map (entryOfKey (tupleKind (mixKind P w))) ∧ (xs.map (·.1)).Nodup
  | .set S n => h.SetOf (intKind P w) a S n
  | .ins C dx fs => H dx = some (.own a) ∧ fs.length ≤ 1000 ∧ dx ≠ a ∧ h.get? a = some (PySem.W.instObj C dx) ∧
      ∃ mA, h.Ns1 dx mA ∧ (∀ f, RelO (fs.lookup f) (mA f)) ∧ PySem.Within mA (fs.map (·.1))
  | .own _ => ∃ o, h.get? a = some o
  | .xd fs => ∃ mA, h.Ns1 a mA ∧ ∀ f, RelO (fs.lookup f) (mA f)
  | .rng lo hi => ∃ t u v, h.get? a = some { cls := .type "range", data := .fields #[.int lo t, .int hi u, .int 1 v] }
  | .frz o u => h.get? a = some o ∧ ObjOk H h a u
  | .tbl ps => h.get? a = some { cls := .none, data := .fields ps }
  | .met f x => h.get? a = some (PySem.W.methodObj (.ref f) (.ref x))
  | .ext φ => φ h ∧ (∃ o, h.get? a = some o) ∧ ∀ h1 h2 : Heap, φ h1 → (∀ o, h1.get? a = some o → h2.get? a = some o) → φ h2
def HOk (H : Hp) (h : Heap) : Prop := ∀ a o, H a = some o → ObjOk P w H h a o
end
section
variable {P : Program} {w : World} {H H' : Hp} {h h' : Heap} {a : Addr} {o : HO}
theorem ObjOk.lt (x : ObjOk P w H h a o) : a < h.objs.size := by
  cases o with
  | lst xs => obtain ⟨_, _, _, _, e⟩ := x; exact Heap.lt_size e
  | tup xs => obtain ⟨_, _, _, p⟩ := x; exact p.lt
  | dK kvs => obtain ⟨_, _, _, _, o, _, _, e, _⟩ := x; exact Heap.lt_size e
  | dT kvs => obtain ⟨_, _, _, _, o, _, _, e, _⟩ := x; exact Heap.lt_size e
  | set S n => obtain ⟨o, _, _, _, e, _⟩ := x; exact Heap.lt_size e
  | ins C dx fs => obtain ⟨_, _, _, e, _⟩ := x; exact Heap.lt_size e
  | own y => obtain ⟨_, e⟩ := x; exact Heap.lt_size e
  | xd fs => obtain ⟨_, ⟨_, _, _, e, _⟩, _⟩ := x; exact Heap.lt_size e
  | rng lo hi => obtain ⟨_, _, _, e⟩ := x; exact Heap.lt_size e
  | frz ob u => obtain ⟨e, _⟩ := x; exact Heap.lt_size e
  | tbl ps => exact Heap.lt_size (show h.get? a = some _ from x)
  | met f y => exact Heap.lt_size (show h.get? a = some _ from x)
  | ext φ => obtain ⟨_, ⟨_, e⟩, _⟩ := x; exact Heap.lt_size e
theorem Paired.mapP {α β : Type} {F G : α → β → Prop} : ∀ {l₁ : List α} {l₂ : List β}, Paired F l₁ l₂ → (∀ a b, F a b → G a b) → Paired G l₁ l₂
  | _, _, .nil, _ => .nil
  | _, _, .cons r t, f => .cons (f _ _ r) (Paired.mapP t f)
theorem ObjOk.stay (x : ObjOk P w H h a o) (k : ∀ b u, (b = a ∨ H b = some (.own a)) → h.get? b = some u → h'.get? b = some u)
    (ho : ∀ b, H b = some (.own a) → H' b = some (.own a)) (ht : ∀ b xs, H b = some (.tup xs) → H' b = some (.tup xs)) : ObjOk P w H' h' a o := by
  induction o with
  | lst xs => obtain ⟨z, its, n, r, e⟩ := x; exact ⟨z, its, n, r, k _ _ (.inl rfl) e⟩
  | tup xs => obtain ⟨z, its, r, ob, e, c⟩ := x; exact ⟨z, its, r, ob, k _ _ (.inl rfl) e, c⟩
  | dK kvs => obtain ⟨z, y, vs, r, ob, es, ep, e, c⟩ := x; exact ⟨z, y, vs, r, ob, es, ep, k _ _ (.inl rfl) e, c⟩
  | dT kvs =>
    obtain ⟨z, y, xs, r, ob, es, ep, e, c⟩ := x
    exact ⟨z, y, xs, Paired.mapP r fun p q z => ⟨z.1, ht _ _ z.2.1, z.2.2⟩, ob, es, ep, k _ _ (.inl rfl) e, c⟩
  | set S n => obtain ⟨ob, es, ep, t, e, c⟩ := x; exact ⟨ob, es, ep, t, k _ _ (.inl rfl) e, c⟩
  | ins C dx fs =>
    obtain ⟨d, z, ne, e, mA, ⟨od, es, ep, e2, c⟩, r⟩ := x
    exact ⟨ho _ d, z, ne, k _ _ (.inl rfl) e, mA, ⟨od, es, ep, k _ _ (.inr d) e2, c⟩, r⟩
  | own y => obtain ⟨ob, e⟩ := x; exact ⟨ob, k _ _ (.inl rfl) e⟩
  | xd fs => obtain ⟨mA, ⟨od, es, ep, e, c⟩, r⟩ := x; exact ⟨mA, ⟨od, es, ep, k _ _ (.inl rfl) e, c⟩, r⟩
  | rng lo hi => obtain ⟨t, u, v, e⟩ := x; exact ⟨t, u, v, k _ _ (.inl rfl) e⟩
  | frz ob u ih => obtain ⟨e, q⟩ := x; exact ⟨k _ _ (.inl rfl) e, ih q⟩
  | tbl ps =>
    have e : h.get? a = some { cls := .none, data := .fields ps } := x
    show h'.get? a = some { cls := .none, data := .fields ps }
    exact k a _ (.inl rfl) e
  | met f y =>
    have e : h.get? a = some (PySem.W.methodObj (.ref f) (.ref y)) := x
    show h'.get? a = some (PySem.W.methodObj (.ref f) (.ref y))
    exact k a _ (.inl rfl) e
  | ext φ => obtain ⟨p, ⟨o, e⟩, st⟩ := x; exact ⟨st _ _ p fun o q => k _ _ (.inl rfl) q, ⟨o, k _ _ (.inl rfl) e⟩, st⟩
theorem HOk.lt (x : HOk P w H h) (e : H a = some o) : a < h.objs.size := (x a o e).lt
theorem HOk.fresh (x : HOk P w H h) (e : h.objs.size ≤ a) : H a = none := by
  cases q : H a with
  | none => rfl
  | some u => exact absurd (Nat.lt_of_lt_of_le (x.lt q) e) (Nat.lt_irrefl _)
theorem HOk.kept (x : HOk P w H h) (k : ∀ b u, h.get? b = some u → h'.get? b = some u) : HOk P w H h' := fun a o e =>
  (x a o e).stay (fun b u _ q => k b u q) (fun _ q => q) fun _ _ q => q
theorem HOk.laid (x : HOk P w H h) (k : ∀ b u, h.get? b = some u → h'.get? b = some u) (hp : h.objs.size ≤ a) (new : ObjOk P w (upd H a o) h' a o) : HOk P w (upd H a o) h' := fun b u e => by
  have hn := x.fresh hp
  by_cases hb : b = a
  · subst hb; rw [upd_same] at e; cases e; exact new
  · rw [upd_ne hb] at e
    exact (x b u e).stay (fun c v _ q => k c v q) (fun c q => by rw [upd_ne (ne_of_none q hn)]; exact q) fun c xs q => by rw [upd_ne (ne_of_none q hn)]; exact q
end
def Rd (H : Hp) (a : Addr) (u : HO) : Prop := H a = some u ∨ ∃ o, H a = some (.frz o u)
theorem Rd.ok {P : Program} {w : World} {H : Hp} {h : Heap} {a : Addr} {u : HO} (r : Rd H a u) (x : HOk P w H h) : ObjOk P w H h a u := by
  rcases r with r | ⟨o, r⟩
  · exact x a u r
  · obtain ⟨_, q⟩ := x a _ r
    exact q
def Mut : Option HO → Prop
  | some (.lst _) => True
  | some (.dK _) => True
  | some (.dT _) => True
  | some (.set _ _) => True
  | some (.ins _ _ _) => True
  | some (.ext _) => True
  | _ => False
section
variable {P : Program} {w : World} {H : Hp} {h h' : Heap} {x e : Addr} {o' : HO}
theorem HOk.write (ok : HOk P w H h) (mu : Mut (H x)) (he : e = x ∨ H e = some (.own x)) (k : ∀ b u, b ≠ e → h.get? b = some u → h'.get? b = some u) (heo : ∃ u, h'.get? e = some u)
    (new : ObjOk P w (upd H x o') h' x o') : HOk P w (upd H x o') h' := fun b u q => by
  have nown : ∀ c y, H c = some (.own y) → c ≠ x := fun c y r z => by subst z; rw [r] at mu; exact mu
  have ntup : ∀ c xs, H c = some (.tup xs) → c ≠ x := fun c xs r z => by subst z; rw [r] at mu; exact mu
  by_cases hb : b = x
  · subst hb; rw [upd_same] at q; cases q; exact new
  · rw [upd_ne hb] at q
    by_cases hbe : b = e
    · have q' : H b = some (.own x) := by
        rcases he with z | z
        · exact absurd (hbe.trans z) hb
        · rw [hbe]; exact z
      rw [q] at q'; cases q'
      obtain ⟨v, hv⟩ := heo
      exact ⟨v, by rw [hbe]; exact hv⟩
    · refine (ok b u q).stay (fun c v hc r => k c v ?_ r) (fun c r => by rw [upd_ne (nown c b r)]; exact r) fun c xs r => by rw [upd_ne (ntup c xs r)]; exact r
      rcases hc with rfl | hc
      · exact hbe
      · rintro rfl
        rcases he with z | z
        · exact nown c b hc z
        · rw [hc] at z; cases z; exact hb rfl
end
structure Un (fs ex : List Addr) (H H' : Hp) (h h' : Heap) : Prop where
  keep : ∀ b o, h.get? b = some o → H b = none → b ∉ fs → b ∉ ex → h'.get? b = some o
  slot : ∀ b o, h.get? b = some o → H b = none → b ∈ fs → b ∉ ex → ∃ sl, h'.get? b = some { o with slots := sl }
  free : ∀ b o, h.get? b = some o → H b = none → b ∉ ex → H' b = none
  there : ∀ b o, h.get? b = some o → b ∉ ex → ∃ o', h'.get? b = some o'
  tups : ∀ b xs, H b = some (.tup xs) → H' b = some (.tup xs)
  frzs : ∀ b o u, H b = some (.frz o u) → H' b = some (.frz o u)
  tbls : ∀ b ps, H b = some (.tbl ps) → ∃ more, H' b = some (.tbl (ps ++ more))
section
variable {fs fs' ex ex' : List Addr} {H H1 H2 : Hp} {h h1 h2 h' : Heap} {a x e : Addr} {o : HO}
theorem Un.any (u : Un fs ex H H1 h h1) {b : Addr} {ob : Obj} (q : h.get? b = some ob) (n : H b = none) (hx : b ∉ ex) : ∃ sl, h1.get? b = some { ob with slots := sl } := by
  by_cases hb : b ∈ fs
  · exact u.slot b ob q n hb hx
  · exact ⟨ob.slots, u.keep b ob q n hb hx⟩
theorem Un.kept (k : ∀ b u, h.get? b = some u → h'.get? b = some u) : Un fs ex H H h h' :=
  ⟨fun b ob q _ _ _ => k b ob q, fun b ob q _ _ _ => ⟨ob.slots, k b ob q⟩, fun _ _ _ n _ => n, fun b ob q _ => ⟨ob, k b ob q⟩, fun _ _ q => q, fun _ _ _ q => q, fun _ ps q => ⟨#[], by rw [q]; simp⟩⟩
theorem Un.refl : Un fs ex H H h h := Un.kept fun _ _ q => q
theorem Un.laid (k : ∀ b u, h.get? b = some u → h'.get? b = some u) (hp : h.objs.size ≤ a) (hn : H a = none) : Un fs ex H (upd H a o) h h' where
  keep := fun b u q _ _ _ => k b u q
  slot := fun b u q _ _ _ => ⟨u.slots, k b u q⟩
  free := fun b u q n _ => by rw [upd_ne (Nat.ne_of_lt (Nat.lt_of_lt_of_le (Heap.lt_size q) hp))]; exact n
  there := fun b u q _ => ⟨u, k b u q⟩
  tups := fun b xs q => by rw [upd_ne (ne_of_none q hn)]; exact q
  frzs := fun b u xs q => by rw [upd_ne (ne_of_none q hn)]; exact q
  tbls := fun b ps q => ⟨#[], by rw [upd_ne (ne_of_none q hn), q]; simp⟩
theorem Un.write (mu : Mut (H x)) (he : e = x ∨ H e = some (.own x)) (k : ∀ b u, b ≠ e → h.get? b = some u → h'.get? b = some u) (heo : ∃ u, h'.get? e = some u) : Un fs ex H (upd H x o) h h' := by
  have hx : ∀ b, H b = none → b ≠ x := fun b n z => by subst z; rw [n] at mu; exact mu
  have hb : ∀ b, H b = none → b ≠ e := fun b n z => by
    subst z
    rcases he with r | r
    · exact hx b n r
    · rw [n] at r; cases r
  have hm : ∀ b u, H b = some u → ¬ Mut (some u) → b ≠ x := fun b u q nm z => by subst z; rw [q] at mu; exact nm mu
  refine ⟨fun b u q n _ _ => k b u (hb b n) q, fun b u q n _ _ => ⟨u.slots, k b u (hb b n) q⟩, fun b u q n _ => by rw [upd_ne (hx b n)]; exact n, fun b u q _ => ?_,
    fun b xs q => by rw [upd_ne (hm b _ q fun z => z)]; exact q, fun b u xs q => by rw [upd_ne (hm b _ q fun z => z)]; exact q, fun b ps q => ⟨#[], by rw [upd_ne (hm b _ q fun z => z), q]; simp⟩⟩
  by_cases hbe : b = e
  · subst hbe; exact heo
  · exact ⟨u, k b u hbe q⟩
end
def trk (h : Heap) (H : Hp) : List Addr := (List.range h.objs.size).filter fun a => (H a).isSome
def hidT (h : Heap) (H : Hp) : Heap := PySem.W.hideAll h (trk h H)
theorem hidT_size (h : Heap) (H : Hp) : (hidT h H).objs.size = h.objs.size := PySem.W.hideAll_size _ _
theorem hidT_get {h : Heap} {H : Hp} {b : Addr} {o : Obj} (e : h.get? b = some o) (n : H b = none) : (hidT h H).get? b = some o :=
  PySem.W.hideAll_get _ e fun hm => by
    have q : (H b).isSome = true := (List.mem_filter.mp hm).2
    rw [n] at q; simp at q
theorem of_hidT {h : Heap} {H : Hp} {b : Addr} {o : Obj} (e : (hidT h H).get? b = some o) : h.get? b = some o ∧ H b = none := by
  have e' : h.get? b = some o := PySem.W.of_hideAll (trk h H) e
  refine ⟨e', ?_⟩
  cases q : H b with
  | none => rfl
  | some x =>
    have hm : b ∈ trk h H := List.mem_filter.mpr ⟨List.mem_range.mpr (Heap.lt_size e'), by simp [q]⟩
    have z : (hidT h H).get? b = none := PySem.W.hideAll_none (trk h H) hm
    rw [z] at e; cases e
end L2
namespace L2
open PySem PySem.Spec PyProof.Rows
structure Mod (K : PySem.W.Frag) (mg : Str → Option Value) (base : Heap) : Prop where
  kin : K.In base
  glob : base.Ns mainGlobals mg
  blt : ∃ mb, base.Ns builtinsNs mb ∧ ∀ x : Str, x ≠ "__name__" → mb x = bootBuiltins x
  nolimit : base.NoLimit
structure Cx where
  prog : Program
  w : World
  K : PySem.W.Frag
  mg : Str → Option Value
  base : Heap
  A : Around
  N : List Str
  s₀ : Shared
  H₀ : Hp
  env : Env
  outer : List Env
  stack : List Env
  ex : List Addr
  fn : Str → Bool
  calm : Bool
  pn : List (Addr × Obj)
  xe : Value → Shared → Prop
def frs (l : List Env) : List Addr := l.filterMap (·.frame)
abbrev Cx.fs (X : Cx) : List Addr := frs X.outer
def Vis (sc : Scope) (x : Str) : Prop := sc.names.lookup x = some .local ∨ sc.names.lookup x = some .cell ∨ sc.names.lookup x = some .free
def Loc (sc : Scope) (x : Str) : Prop := sc.names.lookup x = some .local ∨ sc.names.lookup x = some .cell
def Look (env : Env) (h : Heap) (m : Str → Option Value) (x : Str) (u : Value) : Prop :=
  (env.kindOf x = some .local ∧ m x = some u) ∨ ((env.kindOf x = some .cell ∨ env.kindOf x = some .free) ∧ ∃ c, env.cells.lookup x = some c ∧ h.IsCell c (some u))
structure Cx.Ok (X : Cx) : Prop where
  mod : Mod X.K X.mg X.base
  kind : X.env.scope.kind = .function
  glob : X.env.globals = mainGlobals
  blt : X.env.builtins = builtinsNs
  above : X.s₀.heap.objs.size ≤ X.env.locals
  inj : ∀ x y c, X.env.cells.lookup x = some c → X.env.cells.lookup y = some c → x = y
  has : ∀ x, (X.env.kindOf x = some .cell ∨ X.env.kindOf x = some .free) → ∃ c, X.env.cells.lookup x = some c
  cab : ∀ x c, X.fn x = true → X.env.cells.lookup x = some c → X.s₀.heap.objs.size ≤ c
  hd : X.calm = true → X.A.handled = none
  frames : X.A.frames = some X.stack
  stk : X.stack = X.outer ∨ (X.stack = X.env :: X.outer ∧ X.env.frame = some X.env.locals)
  exf : ∀ b ∈ X.ex, b ≠ X.env.locals ∧ ∀ x c, X.env.cells.lookup x = some c → c ≠ b
  bs : ∀ b o, X.base.get? b = some o → X.s₀.heap.get? b = some o ∧ X.H₀ b = none
  bsz : X.base.objs.size ≤ X.s₀.heap.objs.size
  noex : ∀ b o, X.base.get? b = some o → b ∉ X.ex
  exfs : ∀ b ∈ X.ex, b ∉ X.fs
  funs : X.s₀.heap.FunFrames X.base X.outer
  frf : ∀ b ∈ X.fs, X.H₀ b = none
structure Inv (X : Cx) (pins : List (Addr × Obj)) (σ : List (Option V)) (H : Hp) (s : Shared) : Prop where
  ok : X.Ok
  os : s.os = X.s₀.os
  bare : AllBare s.gens
  base : Un X.fs X.ex X.H₀ H X.s₀.heap s.heap
  loc : ∃ m, s.heap.Ns X.env.locals m ∧ ∀ (i : Nat) (x : Str) (v : V), X.N[i]? = some x → σ[i]? = some (some v) → Vis X.env.scope x → ∃ u, RelV v u ∧ Look X.env s.heap m x u
  cell : ∀ x c, X.env.cells.lookup x = some c → ∃ v, s.heap.IsCell c v
  free : H X.env.locals = none
  freeC : ∀ x c, X.env.cells.lookup x = some c → H c = none
  pin : ∀ p ∈ X.pn ++ pins, s.heap.get? p.1 = some p.2 ∧ H p.1 = none ∧ p.1 ≠ X.env.locals ∧ p.1 ∉ X.fs ∧ ∀ v, p.2.data ≠ .cell v
  hok : HOk X.prog X.w H s.heap
  len : σ.length = X.N.length
section
variable {X : Cx} {pins : List (Addr × Obj)} {σ : List (Option V)} {H H' : Hp} {s : Shared} {h' : Heap}
theorem Cx.Ok.nofr (ok : X.Ok) {b : Addr} {o : Obj} (e : X.base.get? b = some o) : b ∉ X.fs := fun hb => by
  have := (ok.funs.mem hb).1
  rw [e] at this; cases this
theorem Inv.bs (I : Inv X pins σ H s) : ∀ b o, X.base.get? b = some o → s.heap.get? b = some o ∧ H b = none := fun b o e =>
  ⟨I.base.keep b o (I.ok.bs b o e).1 (I.ok.bs b o e).2 (I.ok.nofr e) (I.ok.noex b o e), I.base.free b o (I.ok.bs b o e).1 (I.ok.bs b o e).2 (I.ok.noex b o e)⟩
theorem Inv.bk (I : Inv X pins σ H s) : ∀ b o, X.base.get? b = some o → s.heap.get? b = some o := fun b o e => (I.bs b o e).1
theorem Inv.mod (I : Inv X pins σ H s) : Mod X.K X.mg X.base := I.ok.mod
theorem Inv.kIn (I : Inv X pins σ H s) : X.K.In s.heap := I.ok.mod.kin.keeps I.bk
theorem Inv.lt (I : Inv X pins σ H s) : X.env.locals < s.heap.objs.size := let ⟨_, hn, _⟩ := I.loc; hn.lt
theorem Inv.sz (I : Inv X pins σ H s) : X.s₀.heap.objs.size ≤ s.heap.objs.size := Nat.le_trans I.ok.above (Nat.le_of_lt I.lt)
theorem Inv.nofs (I : Inv X pins σ H s) {a : Addr} (h : s.heap.objs.size ≤ a) : a ∉ X.fs := fun hb => by
  obtain ⟨_, o, ho, _⟩ := I.ok.funs.mem hb
  exact absurd (Nat.lt_of_lt_of_le (Heap.lt_size ho) (Nat.le_trans I.sz h)) (Nat.lt_irrefl _)
theorem Inv.cne (I : Inv X pins σ H s) : ∀ x c, X.env.cells.lookup x = some c → c ≠ X.env.locals := fun x c e z => by
  obtain ⟨v, o, ho, hd⟩ := I.cell x c e
  obtain ⟨m, ⟨o', es, ep, ho', hd', _⟩, _⟩ := I.loc
  rw [z, ho'] at ho; cases ho; rw [hd'] at hd; cases hd
theorem Inv.funs (I : Inv X pins σ H s) : s.heap.FunFrames X.base X.outer := by
  have all : ∀ (l : List Env), (∀ b ∈ frs l, b ∈ X.fs) → X.s₀.heap.FunFrames X.base l → s.heap.FunFrames X.base l := by
    intro l
    induction l with
    | nil => intro _ _; trivial
    | cons env r ih =>
      intro hs hl
      obtain ⟨hk, ⟨L, o, hf, hn, ho, hd⟩, hr⟩ := hl
      have hL : L ∈ X.fs := hs L (by unfold frs; rw [List.filterMap_cons, hf]; exact List.mem_cons_self)
      obtain ⟨sl, e⟩ := I.base.slot L o ho (I.ok.frf L hL) hL fun z => I.ok.exfs L z hL
      exact ⟨hk, ⟨L, _, hf, hn, e, hd⟩, ih (fun b hb => hs b (by unfold frs; rw [List.filterMap_cons, hf]; exact List.mem_cons_of_mem _ hb)) hr⟩
  exact all X.outer (fun _ hb => hb) I.ok.funs
theorem Inv.stack (I : Inv X pins σ H s) : s.heap.FunFrames X.base X.stack := by
  rcases I.ok.stk with e | ⟨e, hf⟩
  · rw [e]; exact I.funs
  · rw [e]
    obtain ⟨m, hn, _⟩ := I.loc
    refine .cons (by rw [I.ok.kind]; decide) hf hn ?_ I.funs
    exact Heap.get?_none_of_le (Nat.le_trans I.ok.bsz I.ok.above)
theorem Inv.stkSub (I : Inv X pins σ H s) : ∀ b ∈ frs X.stack, b ∈ X.env.locals :: X.fs := fun b hb => by
  rcases I.ok.stk with e | ⟨e, hf⟩
  · rw [e] at hb; exact List.mem_cons_of_mem _ hb
  · rw [e] at hb
    unfold frs at hb
    rw [List.filterMap_cons, hf] at hb
    exact hb
theorem Inv.stkFree (I : Inv X pins σ H s) : ∀ b ∈ frs X.stack, H b = none := fun b hb => by
  rcases List.mem_cons.mp (I.stkSub b hb) with e | hb
  · rw [e]; exact I.free
  · obtain ⟨_, o, ho, _⟩ := I.ok.funs.mem hb
    exact I.base.free b o ho (I.ok.frf b hb) fun z => I.ok.exfs b z hb
theorem Inv.step {g' : Array GenState} {t' : Nat} {d' : Drawn} {ch : List Addr} (I : Inv X pins σ H s)
    (hch : ∀ b ∈ ch, (b ∈ X.ex ∨ X.s₀.heap.objs.size ≤ b) ∧ b ≠ X.env.locals ∧ (∀ x c, X.env.cells.lookup x = some c → c ≠ b) ∧ ∀ p ∈ X.pn ++ pins, p.1 ≠ b)
    (keep : ∀ b o, b ≠ X.env.locals → b ∉ X.fs → b ∉ ch → s.heap.get? b = some o → H b = none → h'.get? b = some o)
    (slot : ∀ b o, b ≠ X.env.locals → b ∈ X.fs → b ∉ ch → s.heap.get? b = some o → H b = none → ∃ sl, h'.get? b = some { o with slots := sl }) (free : ∀ b o, b ∉ ch → s.heap.get? b = some o → H b = none → H' b = none)
    (there : ∀ b o, b ∉ ch → s.heap.get? b = some o → ∃ o', h'.get? b = some o')
    (tups : ∀ b xs, H b = some (.tup xs) → H' b = some (.tup xs)) (frzs : ∀ b o u, H b = some (.frz o u) → H' b = some (.frz o u)) (tbls : ∀ b ps, H b = some (.tbl ps) → ∃ more, H' b = some (.tbl (ps ++ more)))
    (ns : ∀ m, s.heap.Ns X.env.locals m → h'.Ns X.env.locals m) (hok : HOk X.prog X.w H' h') (hg : AllBare g') :
    Inv X pins σ H' { s with heap := h', gens := g', drawn := d', toks := t' } := by
  have neL : ∀ b o, X.s₀.heap.get? b = some o → b ≠ X.env.locals := fun b o e => Nat.ne_of_lt (Nat.lt_of_lt_of_le (Heap.lt_size e) I.ok.above)
  have neC : ∀ b o, X.s₀.heap.get? b = some o → b ∉ X.ex → b ∉ ch := fun b o e hx hb => by
    rcases (hch b hb).1 with z | z
    · exact hx z
    · exact absurd (Nat.lt_of_lt_of_le (Heap.lt_size e) z) (Nat.lt_irrefl _)
  have cellK : ∀ x c, X.env.cells.lookup x = some c → ∀ v, s.heap.IsCell c v → h'.IsCell c v := fun x c e v ⟨o, ho, hd⟩ => by
    have nch : c ∉ ch := fun z => (hch c z).2.2.1 x c e rfl
    by_cases hc : c ∈ X.fs
    · obtain ⟨sl, q⟩ := slot c o (I.cne x c e) hc nch ho (I.freeC x c e)
      exact ⟨_, q, hd⟩
    · exact ⟨o, keep c o (I.cne x c e) hc nch ho (I.freeC x c e), hd⟩
  refine ⟨I.ok, I.os, hg, ⟨fun b o e n hb hx => ?_, fun b o e n hb hx => ?_, fun b o e n hx => ?_, fun b o e hx => ?_, fun b xs e => tups b xs (I.base.tups b xs e), fun b o xs e => frzs b o xs (I.base.frzs b o xs e), fun b ps e => ?_⟩, ?_, fun x c e => ?_, ?_, fun x c e => ?_, fun p hp => ?_, hok, I.len⟩
  · exact keep b o (neL b o e) hb (neC b o e hx) (I.base.keep b o e n hb hx) (I.base.free b o e n hx)
  · obtain ⟨sl, e1⟩ := I.base.slot b o e n hb hx
    obtain ⟨sl', e2⟩ := slot b _ (neL b o e) hb (neC b o e hx) e1 (I.base.free b o e n hx)
    exact ⟨sl', e2⟩
  · obtain ⟨o', e1⟩ := I.base.there b o e hx
    exact free b o' (neC b o e hx) e1 (I.base.free b o e n hx)
  · obtain ⟨o', e1⟩ := I.base.there b o e hx
    exact there b o' (neC b o e hx) e1
  · obtain ⟨m1, e1⟩ := I.base.tbls b ps e
    obtain ⟨m2, e2⟩ := tbls b _ e1
    exact ⟨m1 ++ m2, by rw [e2, Array.append_assoc]⟩
  · obtain ⟨m, hn, hl⟩ := I.loc
    refine ⟨m, ns m hn, fun i x v e1 e2 e3 => ?_⟩
    obtain ⟨u, r, l⟩ := hl i x v e1 e2 e3
    refine ⟨u, r, ?_⟩
    rcases l with l | ⟨k, c, e, z⟩
    · exact .inl l
    · exact .inr ⟨k, c, e, cellK x c e _ z⟩
  · obtain ⟨v, z⟩ := I.cell x c e
    exact ⟨v, cellK x c e v z⟩
  · obtain ⟨m, ⟨o, _, _, ho, _⟩, _⟩ := I.loc
    exact free _ o (fun z => (hch _ z).2.1 rfl) ho I.free
  · obtain ⟨v, o, ho, hd⟩ := I.cell x c e
    exact free c o (fun z => (hch c z).2.2.1 x c e rfl) ho (I.freeC x c e)
  · obtain ⟨e, n, ne, nf, d⟩ := I.pin p hp
    have nch : p.1 ∉ ch := fun z => (hch p.1 z).2.2.2 p hp rfl
    exact ⟨keep p.1 p.2 ne nf nch e n, free p.1 p.2 nch e n, ne, nf, d⟩
theorem Inv.un {t' : Nat} (I : Inv X pins σ H s) (u : Un X.fs [] H H' s.heap h') (hok : HOk X.prog X.w H' h') : Inv X pins σ H' { s with heap := h', toks := t' } := by
  obtain ⟨m, ⟨o, es, ep, ho, r⟩, _⟩ := id I.loc
  obtain ⟨sl, hL⟩ := u.any ho I.free (by simp)
  exact I.step (g' := s.gens) (d' := s.drawn) (ch := []) (fun _ z => nomatch z) (fun b o _ hb _ e n => u.keep b o e n hb (by simp)) (fun b o _ hb _ e n => u.slot b o e n hb (by simp)) (fun b o _ e n => u.free b o e n (by simp)) (fun b o _ e => u.there b o e (by simp)) u.tups u.frzs u.tbls (fun m' hm => by
    obtain ⟨o', es', ep', ho', r'⟩ := hm
    rw [ho] at ho'; cases ho'
    exact ⟨_, es', ep', hL, r'⟩) hok I.bare
theorem Inv.call {g' : Array GenState} {t' : Nat} {d' : Drawn} {ch : List Addr} (I : Inv X pins σ H s) (u : Un (frs X.stack) ch H H' s.heap h') (hok : HOk X.prog X.w H' h') (hg : AllBare g')
    (hch : ∀ b ∈ ch, (b ∈ X.ex ∨ X.s₀.heap.objs.size ≤ b) ∧ b ≠ X.env.locals ∧ (∀ x c, X.env.cells.lookup x = some c → c ≠ b) ∧ ∀ p ∈ X.pn ++ pins, p.1 ≠ b) :
    Inv X pins σ H' { s with heap := h', gens := g', drawn := d', toks := t' } := by
  obtain ⟨m, ⟨o, es, ep, ho, r⟩, _⟩ := id I.loc
  obtain ⟨sl, hL⟩ := u.any ho I.free fun z => (hch _ z).2.1 rfl
  exact I.step (ch := ch) hch (fun b o hL hb hc e n => u.keep b o e n (fun z => (List.mem_cons.mp (I.stkSub b z)).elim hL hb) hc) (fun b o _ _ hc e n => u.any e n hc) (fun b o hc e n => u.free b o e n hc) (fun b o hc e => u.there b o e hc) u.tups u.frzs u.tbls (fun m' hm => by
    obtain ⟨o', es', ep', ho', r'⟩ := hm
    rw [ho] at ho'; cases ho'
    exact ⟨_, es', ep', hL, r'⟩) hok hg
theorem Inv.turned {t' : Nat} {it : Addr} (I : Inv X pins σ H s) (k : ∀ b o, b ≠ it → s.heap.get? b = some o → h'.get? b = some o) (hn : H it = none) (hL : it ≠ X.env.locals)
    (h1 : it ∈ X.ex ∨ X.s₀.heap.objs.size ≤ it) (h2 : ∀ x c, X.env.cells.lookup x = some c → c ≠ it) (h3 : ∀ p ∈ X.pn ++ pins, p.1 ≠ it) : Inv X pins σ H { s with heap := h', toks := t' } := by
  have nit : ∀ b u, H b = some u → b ≠ it := fun b u e z => by rw [z, hn] at e; cases e
  refine I.step (g' := s.gens) (d' := s.drawn) (ch := [it]) (fun b hb => ?_) (fun b o _ _ hc e _ => k b o (fun z => hc (by simp [z])) e) (fun b o _ _ hc e _ => ⟨o.slots, k b o (fun z => hc (by simp [z])) e⟩) (fun _ _ _ _ n => n)
    (fun b o hc e => ⟨o, k b o (fun z => hc (by simp [z])) e⟩) (fun _ _ e => e) (fun _ _ _ e => e) (fun b ps e => ⟨#[], by rw [e]; simp⟩) (fun m hm => ?_) (fun b u e => ?_) I.bare
  · have e : b = it := by simpa using hb
    subst e
    exact ⟨h1, hL, h2, h3⟩
  · obtain ⟨o, es, ep, ho, r⟩ := hm
    exact ⟨o, es, ep, k _ o (Ne.symm hL) ho, r⟩
  · refine (I.hok b u e).stay (fun c v hc q => k c v ?_ q) (fun _ q => q) fun _ _ q => q
    rcases hc with z | z
    · rw [z]; exact nit b u e
    · exact nit c _ z
theorem Inv.tok (I : Inv X pins σ H s) (t : Nat) : Inv X pins σ H { s with toks := t } := I.un (h' := s.heap) (t' := t) Un.refl I.hok
theorem Inv.kept {t' : Nat} (I : Inv X pins σ H s) (k : ∀ b u, s.heap.get? b = some u → h'.get? b = some u) : Inv X pins σ H { s with heap := h', toks := t' } := I.un (Un.kept k) (I.hok.kept k)
theorem Inv.laid {a : Addr} {o : HO} {t' : Nat} (I : Inv X pins σ H s) (k : ∀ b u, s.heap.get? b = some u → h'.get? b = some u) (hp : s.heap.objs.size ≤ a) (new : ObjOk X.prog X.w (upd H a o) h' a o) :
    Inv X pins σ (upd H a o) { s with heap := h', toks := t' } := I.un (Un.laid k hp (I.hok.fresh hp)) (I.hok.laid k hp new)
theorem Inv.write {x e : Addr} {o : HO} {t' : Nat} (I : Inv X pins σ H s) (mu : Mut (H x)) (he : e = x ∨ H e = some (.own x)) (k : ∀ b u, b ≠ e → s.heap.get? b = some u → h'.get? b = some u) (heo : ∃ u, h'.get? e = some u)
    (new : ObjOk X.prog X.w (upd H x o) h' x o) : Inv X pins σ (upd H x o) { s with heap := h', toks := t' } := I.un (Un.write mu he k heo) (I.hok.write mu he k heo new)
theorem Inv.pins_of {pins' : List (Addr × Obj)} (I : Inv X pins σ H s) (h : ∀ p ∈ pins', s.heap.get? p.1 = some p.2 ∧ H p.1 = none ∧ p.1 ≠ X.env.locals ∧ p.1 ∉ X.fs ∧ ∀ v, p.2.data ≠ .cell v) : Inv X pins' σ H s :=
  ⟨I.ok, I.os, I.bare, I.base, I.loc, I.cell, I.free, I.freeC, fun p hp => (List.mem_append.mp hp).elim (fun z => I.pin p (List.mem_append_left _ z)) (h p), I.hok, I.len⟩
theorem nodup_ix {N : List Str} (hN : N.Nodup) {i j : Nat} {x : Str} (a : N[i]? = some x) (b : N[j]? = some x) : i = j := by
  obtain ⟨h1, e1⟩ := List.getElem?_eq_some_iff.mp a
  obtain ⟨h2, e2⟩ := List.getElem?_eq_some_iff.mp b
  exact (List.getElem_inj hN).mp (e1.trans e2.symm)
theorem store_ok2 {M : Model} {A : Around} {E : Value → Shared → Prop} {i : Nat} {x : Str} {v : V} {u : Value} {Q : Unit → Shared → Prop} (I : Inv X pins σ H s) (hN : X.N.Nodup) (hi : X.N[i]? = some x) (hx : Loc X.env.scope x) (r : RelV v u)
    (h : ∀ s', Inv X pins (σ.set i (some v)) H s' → (∃ a, Heap.SameBut a s.heap s'.heap ∧ (a = X.env.locals ∨ X.env.cells.lookup x = some a)) → Q () s') (hf : X.fn x = true ∨ X.env.scope.names.lookup x = some .local := by first | exact .inl rfl | exact .inr rfl | assumption) : wpAny M A (storeName X.env x u) Q E s := by
  obtain ⟨m, hn, hl⟩ := id I.loc
  have hcls : (X.env.scope.kind == .class || (X.env.scope.kind == .module && X.env.locals != X.env.globals)) = false := by rw [I.ok.kind]; rfl
  have hiσ : i < σ.length := by rw [I.len]; exact (List.getElem?_eq_some_iff.mp hi).1
  have cne := I.cne
  have tracked : ∀ {a : Addr} {h' : Heap}, (∃ o, s.heap.get? a = some o ∧ H a = none) → Heap.SameBut a s.heap h' → HOk X.prog X.w H h' := fun {a h'} ha hs b ob e => by
    obtain ⟨_, _, hfree⟩ := ha
    refine (I.hok b ob e).stay (fun c w' hc q => (hs.2 c ?_).trans q) (fun _ q => q) fun _ _ q => q
    rintro rfl
    rcases hc with rfl | hc
    · rw [hfree] at e; cases e
    · rw [hfree] at hc; cases hc
  rcases hx with hk | hk
  · refine wpAny_storeName_local hk hn (fun h' hn' hs => ?_) hcls
    obtain ⟨oL, _, _, hoL, _⟩ := id hn
    refine h _ ⟨I.ok, I.os, I.bare, ⟨fun b o e n hb hx => ?_, fun b o e n hb hx => ?_, I.base.free, fun b o e hx => ?_, I.base.tups, I.base.frzs, I.base.tbls⟩, ⟨_, hn', fun j y v' e1 e2 e3 => ?_⟩, fun y c e => ?_, I.free, I.freeC, fun p hp => ?_, tracked ⟨oL, hoL, I.free⟩ hs, by simpa using I.len⟩ ⟨_, hs, .inl rfl⟩
    · exact (hs.2 b (Nat.ne_of_lt (Nat.lt_of_lt_of_le (Heap.lt_size e) I.ok.above))).trans (I.base.keep b o e n hb hx)
    · obtain ⟨sl, e1⟩ := I.base.slot b o e n hb hx
      exact ⟨sl, (hs.2 b (Nat.ne_of_lt (Nat.lt_of_lt_of_le (Heap.lt_size e) I.ok.above))).trans e1⟩
    · obtain ⟨o', e1⟩ := I.base.there b o e hx
      exact ⟨o', (hs.2 b (Nat.ne_of_lt (Nat.lt_of_lt_of_le (Heap.lt_size e) I.ok.above))).trans e1⟩
    · by_cases hj : j = i
      · subst hj
        rw [hi] at e1; cases e1
        rw [List.getElem?_set_self hiσ] at e2
        cases e2
        exact ⟨u, r, .inl ⟨hk, by simp⟩⟩
      · rw [List.getElem?_set_ne (Ne.symm hj)] at e2
        obtain ⟨u', r', q⟩ := hl j y v' e1 e2 e3
        refine ⟨u', r', ?_⟩
        rcases q with ⟨k, e⟩ | ⟨k, c, e, z⟩
        · refine .inl ⟨k, ?_⟩
          have : y ≠ x := fun e => hj (nodup_ix hN e1 (e ▸ hi))
          simp [this, e]
        · exact .inr ⟨k, c, e, z.sameBut hs (cne y c e)⟩
    · obtain ⟨w', z⟩ := I.cell y c e
      exact ⟨w', z.sameBut hs (cne y c e)⟩
    · obtain ⟨e, n, ne, nf, d⟩ := I.pin p hp
      exact ⟨(hs.2 p.1 ne).trans e, n, ne, nf, d⟩
  · have hfn : X.fn x = true := by
      rcases hf with z | z
      · exact z
      · rw [z] at hk; cases hk
    obtain ⟨c, hc⟩ := I.ok.has x (.inl hk)
    obtain ⟨w', z⟩ := I.cell x c hc
    refine wpAny_storeName_cell I.ok.kind hk hc z (fun h' hc' hs => ?_)
    obtain ⟨oc, hoc, hocd⟩ := id z
    refine h { s with heap := h' } ⟨I.ok, I.os, I.bare, ⟨fun b o e n hb hx => ?_, fun b o e n hb hx => ?_, I.base.free, fun b o e hx => ?_, I.base.tups, I.base.frzs, I.base.tbls⟩, ⟨m, hn.sameBut hs (Ne.symm (cne x c hc)), fun j y v' e1 e2 e3 => ?_⟩, fun y c' e => ?_, I.free, I.freeC, fun p hp => ?_, tracked ⟨oc, hoc, I.freeC x c hc⟩ hs, by simpa using I.len⟩ ⟨c, hs, .inr hc⟩
    · exact (hs.2 b (Nat.ne_of_lt (Nat.lt_of_lt_of_le (Heap.lt_size e) (I.ok.cab x c hfn hc)))).trans (I.base.keep b o e n hb hx)
    · obtain ⟨sl, e1⟩ := I.base.slot b o e n hb hx
      exact ⟨sl, (hs.2 b (Nat.ne_of_lt (Nat.lt_of_lt_of_le (Heap.lt_size e) (I.ok.cab x c hfn hc)))).trans e1⟩
    · obtain ⟨o', e1⟩ := I.base.there b o e hx
      exact ⟨o', (hs.2 b (Nat.ne_of_lt (Nat.lt_of_lt_of_le (Heap.lt_size e) (I.ok.cab x c hfn hc)))).trans e1⟩
    · by_cases hj : j = i
      · subst hj
        rw [hi] at e1; cases e1
        rw [List.getElem?_set_self hiσ] at e2
        cases e2
        exact ⟨u, r, .inr ⟨.inl hk, c, hc, hc'⟩⟩
      · rw [List.getElem?_set_ne (Ne.symm hj)] at e2
        obtain ⟨u', r', q⟩ := hl j y v' e1 e2 e3
        refine ⟨u', r', ?_⟩
        rcases q with q | ⟨k, c', e, z'⟩
        · exact .inl q
        · refine .inr ⟨k, c', e, z'.sameBut hs ?_⟩
          rintro rfl
          exact hj (nodup_ix hN e1 (I.ok.inj _ _ _ e hc ▸ hi))
    · by_cases hcc : c' = c
      · subst hcc; exact ⟨_, hc'⟩
      · obtain ⟨w2, z2⟩ := I.cell y c' e
        exact ⟨w2, z2.sameBut hs hcc⟩
    · obtain ⟨e, n, ne, nf, d⟩ := I.pin p hp
      refine ⟨(hs.2 p.1 ?_).trans e, n, ne, nf, d⟩
      intro q
      rw [q, hoc] at e
      have q' : oc = p.2 := Option.some.inj e
      exact d w' (by rw [← q']; exact hocd)
theorem store_ok {M : Model} {A : Around} {E : Value → Shared → Prop} {i : Nat} {x : Str} {v : V} {u : Value} {Q : Unit → Shared → Prop} (I : Inv X pins σ H s) (hN : X.N.Nodup) (hi : X.N[i]? = some x) (hx : Loc X.env.scope x) (r : RelV v u)
    (h : ∀ s', Inv X pins (σ.set i (some v)) H s' → Q () s') (hf : X.fn x = true ∨ X.env.scope.names.lookup x = some .local := by first | exact .inl rfl | exact .inr rfl | assumption) : wpAny M A (storeName X.env x u) Q E s :=
  store_ok2 I hN hi hx r (fun s' I' _ => h s' I') hf
theorem Inv.call' {s' : Shared} {ch : List Addr} (I : Inv X pins σ H s) (ho : s'.os = s.os) (u : Un (frs X.stack) ch H H' s.heap s'.heap) (hok : HOk X.prog X.w H' s'.heap) (hg : AllBare s'.gens)
    (hch : ∀ b ∈ ch, (b ∈ X.ex ∨ X.s₀.heap.objs.size ≤ b) ∧ b ≠ X.env.locals ∧ (∀ x c, X.env.cells.lookup x = some c → c ≠ b) ∧ ∀ p ∈ X.pn ++ pins, p.1 ≠ b) : Inv X pins σ H' s' := by
  obtain ⟨h', g', d', t', o'⟩ := s'
  have e : o' = s.os := ho
  subst e
  exact I.call (g' := g') (t' := t') (d' := d') u hok hg hch
end
abbrev XK := Value → Option Addr → Hp → Prop
abbrev St := List (Option V)
abbrev VK := V → Hp → Prop
abbrev TE := St → Hp → VK → Prop
abbrev TT := St → Hp → (Bool → Hp → Prop) → Prop
abbrev TA := St → Hp → (List V → Hp → Prop) → Prop
structure Ends where
  nx : St → Hp → Prop
  rt : VK
  bk : St → Hp → Prop := fun _ _ => False
  ct : St → Hp → Prop := fun _ _ => False
abbrev TS := Ends → St → Hp → Prop
def EP (X : Cx) (pins : List (Addr × Obj)) (σ : St) (Q : VK) (u : Value) (s' : Shared) : Prop := ∃ v H', Inv X pins σ H' s' ∧ RelV v u ∧ Q v H'
def TP (X : Cx) (pins : List (Addr × Obj)) (σ : St) (Q : Bool → Hp → Prop) (b : Bool) (s' : Shared) : Prop := ∃ H', Inv X pins σ H' s' ∧ Q b H'
def AP (X : Cx) (pins : List (Addr × Obj)) (σ : St) (Q : List V → Hp → Prop) (us : List Value) (s' : Shared) : Prop := ∃ vs H', Inv X pins σ H' s' ∧ Vals vs us ∧ Q vs H'
def SP (X : Cx) (pins : List (Addr × Obj)) (D : Ends) (f : Flow) (s' : Shared) : Prop :=
  match f with
  | .next => ∃ σ' H', Inv X pins σ' H' s' ∧ D.nx σ' H'
  | .brk => ∃ σ' H', Inv X pins σ' H' s' ∧ D.bk σ' H'
  | .cont => ∃ σ' H', Inv X pins σ' H' s' ∧ D.ct σ' H'
  | .ret u => ∃ v σ' H', Inv X pins σ' H' s' ∧ RelV v u ∧ D.rt v H'
def PE (X : Cx) (e : Expr) (t : TE) : Prop :=
  ∀ (pins : List (Addr × Obj)) (s : Shared) (σ : St) (H : Hp) (Q : VK), Inv X pins σ H s → t σ H Q → wpAny (model X.prog X.w) X.A (eval e X.env) (EP X pins σ Q) X.xe s
def PT (X : Cx) (e : Expr) (t : TT) : Prop :=
  ∀ (pins : List (Addr × Obj)) (s : Shared) (σ : St) (H : Hp) (Q : Bool → Hp → Prop), Inv X pins σ H s → t σ H Q → wpAny (model X.prog X.w) X.A (isTrue e X.env (eval e X.env)) (TP X pins σ Q) X.xe s
def PW (X : Cx) (e : Expr) (t : TT) : Prop :=
  ∀ (whole : Sem Value) (pins : List (Addr × Obj)) (s : Shared) (σ : St) (H : Hp) (Q : Bool → Hp → Prop), Inv X pins σ H s → t σ H Q → wpAny (model X.prog X.w) X.A (isTrue e X.env whole) (TP X pins σ Q) X.xe s
theorem PW.pt {X : Cx} {e : Expr} {t : TT} (h : PW X e t) : PT X e t := h _
def PA (X : Cx) (es : List Expr) (t : TA) : Prop :=
  ∀ (pos : Pos) (pins : List (Addr × Obj)) (s : Shared) (σ : St) (H : Hp) (Q : List V → Hp → Prop), Inv X pins σ H s → t σ H Q → wpAny (model X.prog X.w) X.A (spliced (backTo pos (starEach es X.env))) (AP X pins σ Q) X.xe s
def PS (X : Cx) (st : Stmt) (t : TS) : Prop :=
  ∀ (pins : List (Addr × Obj)) (s : Shared) (σ : St) (H : Hp) (D : Ends), Inv X pins σ H s → t D σ H → wpAny (model X.prog X.w) X.A (exec st X.env) (SP X pins D) X.xe s
def PSs (X : Cx) (st : List Stmt) (t : TS) : Prop :=
  ∀ (pins : List (Addr × Obj)) (s : Shared) (σ : St) (H : Hp) (D : Ends), Inv X pins σ H s → t D σ H → wpAny (model X.prog X.w) X.A (execs st X.env) (SP X pins D) X.xe s
theorem thn {α : Type} {t : Sem α} {Q Q' : α → Shared → Prop} {M : Model} {A : Around} {E : Value → Shared → Prop} {s : Shared} (h : wpAny M A t Q E s) (hQ : ∀ a s, Q a s → Q' a s) : wpAny M A t Q' E s := wpAny_mono h hQ fun _ _ x => x
end L2
namespace L2
open PySem PySem.Spec PyProof.Rows
section
variable {X : Cx}
theorem bin {a b : Expr} {ta tb : TE} (ha : PE X a ta) (hb : PE X b tb) {pins : List (Addr × Obj)} {s : Shared} {σ : St} {H : Hp} {R : V → V → Hp → Prop} (I : Inv X pins σ H s) (h : ta σ H fun x H1 => tb σ H1 fun y H2 => R x y H2)
    {α : Type} {Q : α → Shared → Prop} {f : Value → Value → Sem α}
    (hf : ∀ v u s2 x y H2, Inv X pins σ H2 s2 → RelV x v → RelV y u → R x y H2 → wpAny (model X.prog X.w) X.A (f v u) Q X.xe s2) :
    wpAny (model X.prog X.w) X.A (eval a X.env) (fun v s₁ => wpAny (model X.prog X.w) X.A (eval b X.env) (fun u s₂ => wpAny (model X.prog X.w) X.A (f v u) Q X.xe s₂) X.xe s₁) X.xe s := by
  refine thn (ha pins s σ H _ I h) fun v s1 ⟨x, H1, I1, r1, q1⟩ => ?_
  refine thn (hb pins s1 σ H1 _ I1 q1) fun u s2 ⟨y, H2, I2, r2, q2⟩ => ?_
  exact hf v u s2 x y H2 I2 r1 r2 q2
def tVar (i : Nat) : TE := fun σ H Q => ∃ v, σ[i]? = some (some v) ∧ Q v H
def tC (v : V) : TE := fun _ H Q => Q v H
theorem pe_var {i : Nat} {x : Str} {pos : Pos} (hN : X.N[i]? = some x) (hv : Vis X.env.scope x) (hd : (x == ("__debug__" : Str)) = false := by decide) (hcd : (x == ("__classdict__" : Str)) = false := by decide) : PE X (.Name x pos) (tVar i) := by
  intro pins s σ H Q I h
  obtain ⟨v, e, h⟩ := h
  obtain ⟨m, hn, hl⟩ := I.loc
  obtain ⟨u, r, l⟩ := hl i x v hN e hv
  have fin : EP X pins σ Q u s := ⟨v, H, I, r, h⟩
  rcases l with ⟨hk, hm⟩ | ⟨hk, c, hc, hcell⟩
  · exact wpAny_Name (wpAny_loadName_local I.ok.kind hk hn hm fin) hd
  · rcases hk with hk | hk
    · exact wpAny_Name (wpAny_loadName_cell I.ok.kind hk hc hcell fin) hd
    · exact wpAny_Name (wpAny_loadName_free I.ok.kind hk hc hcell fin hcd) hd
theorem pe_int {i j pos} : PE X (.Constant (.int i) j pos) (tC (.int i)) := fun _ _ _ H _ I h => wpAny_Constant_int ⟨.int i, H, I.tok _, ⟨_, rfl⟩, h⟩
theorem pe_bl {b j pos} : PE X (.Constant (.bool b) j pos) (tC (.bl b)) := fun _ _ _ H _ I h => Constant_bool ⟨.bl b, H, I, rfl, h⟩
theorem pe_non {j pos} : PE X (.Constant .none j pos) (tC .non) := fun _ _ _ H _ I h => Constant_none ⟨.non, H, I, rfl, h⟩
theorem pe_str {x j pos} : PE X (.Constant (.str x) j pos) (tC (.str x)) := fun _ _ _ H _ I h => Calls.Constant_str ⟨.str x, H, I.tok _, ⟨_, rfl⟩, h⟩
def Gl (X : Cx) (x : Str) : Prop := X.env.kindOf x = some .globalImplicit
theorem ld_glob {E : Value → Shared → Prop} {pins : List (Addr × Obj)} {s : Shared} {σ : St} {H : Hp} {x : Str} {u : Value} {pos : Pos} {Q : Value → Shared → Prop} (I : Inv X pins σ H s) (hg : Gl X x) (hm : X.mg x = some u) (h : Q u s)
    (hd : (x == ("__debug__" : Str)) = false := by decide) : wpAny (model X.prog X.w) X.A (eval (.Name x pos) X.env) Q E s :=
  Calls.Name_function_global I.ok.kind hg (Calls.loadGlobal_global (by rw [I.ok.glob]; exact I.mod.glob.keeps I.bk) hm h) hd
theorem ld_blt {E : Value → Shared → Prop} {pins : List (Addr × Obj)} {s : Shared} {σ : St} {H : Hp} {x : Str} {u : Value} {pos : Pos} {Q : Value → Shared → Prop} (I : Inv X pins σ H s) (hg : Gl X x) (hm : X.mg x = none) (hv : bootBuiltins x = some u) (h : Q u s)
    (hn : x ≠ "__name__" := by decide) (hd : (x == ("__debug__" : Str)) = false := by decide) : wpAny (model X.prog X.w) X.A (eval (.Name x pos) X.env) Q E s := by
  obtain ⟨mb, h1, h2⟩ := I.mod.blt
  exact Calls.Name_function_global I.ok.kind hg (Calls.loadGlobal_builtin (by rw [I.ok.glob]; exact I.mod.glob.keeps I.bk) hm (by rw [I.ok.blt]; exact h1.keeps I.bk) ((h2 x hn).trans hv) h) hd
theorem pe_glob {x : Str} {v : V} {u : Value} {pos : Pos} (hg : Gl X x) (hm : X.mg x = some u) (r : RelV v u) (hd : (x == ("__debug__" : Str)) = false := by decide) : PE X (.Name x pos) (tC v) :=
  fun _ _ _ H _ I h => ld_glob I hg hm ⟨v, H, I, r, h⟩ hd
theorem pe_bltn {x : Str} {v : V} {u : Value} {pos : Pos} (hg : Gl X x) (hm : X.mg x = none) (hv : bootBuiltins x = some u) (r : RelV v u) (hn : x ≠ "__name__" := by decide) (hd : (x == ("__debug__" : Str)) = false := by decide) : PE X (.Name x pos) (tC v) :=
  fun _ _ _ H _ I h => ld_blt I hg hm hv ⟨v, H, I, r, h⟩ hn hd
variable {a b : Expr} {ta tb : TE} {pos : Pos}
def PC (X : Cx) (op : CmpOp) (a b : Expr) (t : TE) : Prop :=
  ∀ (pins : List (Addr × Obj)) (s : Shared) (σ : St) (H : Hp) (Q : VK), Inv X pins σ H s → t σ H Q →
    wpAny (model X.prog X.w) X.A (eval a X.env) (fun v s₁ => wpAny (model X.prog X.w) X.A (eval b X.env) (fun u s₂ => wpAny (model X.prog X.w) X.A (compareOp op v u) (EP X pins σ Q) X.xe s₂) X.xe s₁) X.xe s
def tB (t : TE) : TT := fun σ H Q => t σ H fun x H1 => ∃ c, x = .bl c ∧ Q c H1
theorem pt_cmp {op : CmpOp} {t : TE} (h : PC X op a b t) (h1 : behindInMarks op b = false := by first | exact nobehind _ (by decide) (by decide) | rfl) : PT X (.Compare a [op] [b] pos) (tB t) := by
  intro pins s σ H Q I hw
  refine wpAny_isTrue_Compare1 (thn (h pins s σ H _ I hw) fun v s1 h1 => thn h1 fun u s2 h2 => thn h2 fun c s3 ⟨x, H1, I1, r1, q1⟩ => ?_) h1
  obtain ⟨d, rfl, q⟩ := q1
  cases r1
  exact wpAny_truthy_bool ⟨H1, I1, q⟩
theorem pt_val {e : Expr} {t : TE} (h : PE X e t) (he : ∀ whole, isTrue e X.env whole = (do let v ← whole; standAt e.pos; holding [v] (truthy v)) := by intro _; rfl) : PT X e (tB t) := by
  intro pins s σ H Q I hw
  refine isTrue_plain (thn (h pins s σ H _ I hw) fun v s1 ⟨x, H1, I1, r1, q1⟩ => ?_) (he _)
  obtain ⟨d, rfl, q⟩ := q1
  cases r1
  exact wpAny_truthy_bool ⟨H1, I1, q⟩
variable {tA tB' : TT} {rest : List Expr}
def tAnd (t u : TT) : TT := fun σ H Q => t σ H fun c H1 => if c = true then u σ H1 Q else Q false H1
def tOr (t u : TT) : TT := fun σ H Q => t σ H fun c H1 => if c = true then Q true H1 else u σ H1 Q
def tNot (t : TT) : TT := fun σ H Q => t σ H fun c H1 => Q (!c) H1
theorem pw_and1 (ha : PT X a tA) : PW X (.BoolOp .And [a] pos) tA := by
  intro wh pins s σ H Q I h
  refine isTrue_and (thn (ha pins s σ H Q I h) fun c s1 e => ?_)
  cases c with
  | true => exact isTrue_and_nil e
  | false => exact e
theorem pw_or1 (ha : PT X a tA) : PW X (.BoolOp .Or [a] pos) tA := by
  intro wh pins s σ H Q I h
  refine isTrue_or (thn (ha pins s σ H Q I h) fun c s1 e => ?_)
  cases c with
  | false => exact isTrue_or_nil e
  | true => exact e
theorem pw_and (ha : PT X a tA) (hb : PW X (.BoolOp .And (b :: rest) pos) tB') : PW X (.BoolOp .And (a :: b :: rest) pos) (tAnd tA tB') := by
  intro wh pins s σ H Q I h
  refine isTrue_and (thn (ha pins s σ H _ I h) fun c s1 ⟨H1, I1, q1⟩ => ?_)
  cases c with
  | true => exact hb wh pins s1 σ H1 Q I1 q1
  | false => exact ⟨H1, I1, q1⟩
theorem pw_or (ha : PT X a tA) (hb : PW X (.BoolOp .Or (b :: rest) pos) tB') : PW X (.BoolOp .Or (a :: b :: rest) pos) (tOr tA tB') := by
  intro wh pins s σ H Q I h
  refine isTrue_or (thn (ha pins s σ H _ I h) fun c s1 ⟨H1, I1, q1⟩ => ?_)
  cases c with
  | true => exact ⟨H1, I1, q1⟩
  | false => exact hb wh pins s1 σ H1 Q I1 q1
theorem pt_not (ha : PT X a tA) : PT X (.UnaryOp .Not a pos) (tNot tA) := by
  intro pins s σ H Q I h
  exact isTrue_not (ha pins s σ H (fun c H1 => Q (!c) H1) I h)
def tAndV (ta tb : TE) : TE := fun σ H Q => ta σ H fun x H1 => ∃ c, x = .bl c ∧ if c = true then tb σ H1 Q else Q (.bl false) H1
theorem pe_one {op} {t : TE} (h : PE X a t) : PE X (.BoolOp op [a] pos) t := fun pins s σ H Q I hw => BoolOp_one (h pins s σ H Q I hw)
theorem pe_and (ha : PE X a ta) (hb : PE X (.BoolOp .And (b :: rest) pos) tb) : PE X (.BoolOp .And (a :: b :: rest) pos) (tAndV ta tb) := by
  intro pins s σ H Q I h
  refine BoolOp_and (thn (ha pins s σ H _ I h) fun v s1 ⟨x, H1, I1, r1, q1⟩ => ?_)
  obtain ⟨c, rfl, q1⟩ := q1
  cases r1
  refine wpAny_truthy_bool ?_
  cases c with
  | true => exact hb pins s1 σ H1 Q I1 q1
  | false => exact ⟨.bl false, H1, I1, rfl, q1⟩
def tIf (t : TT) (ta tb : TE) : TE := fun σ H Q => t σ H fun c H1 => if c = true then ta σ H1 Q else tb σ H1 Q
theorem pe_ifExp {c : Expr} (hc : PT X c tA) (ha : PE X a ta) (hb : PE X b tb) : PE X (.IfExp c a b pos) (tIf tA ta tb) := by
  intro pins s σ H Q I h
  refine wpAny_IfExp (thn (hc pins s σ H _ I h) fun d s1 ⟨H1, I1, q1⟩ => ?_)
  cases d with
  | true => exact ha pins s1 σ H1 Q I1 q1
  | false => exact hb pins s1 σ H1 Q I1 q1
end
end L2
namespace L2
open PySem PySem.Spec PyProof.Rows
def SqL (K : PySem.W.Frag) (H : Hp) (a : Addr) (xs : List V) : Prop :=
  Rd H a (.lst xs) ∨
    ∃ (o : Obj) (its : Array Value) (n : Nat), K.lookup a = some o ∧ o.cls = .type "list" ∧ o.dict = none ∧ o.data = .seq its n ∧ its.size ≤ sizeLine ∧ Vals xs its.toList
def SqT (K : PySem.W.Frag) (H : Hp) (a : Addr) (xs : List V) : Prop :=
  Rd H a (.tup xs) ∨
    ∃ (o : Obj) (its : Array Value) (n : Nat), K.lookup a = some o ∧ o.cls = .type "tuple" ∧ o.data = .seq its n ∧ its.size ≤ sizeLine ∧ Vals xs its.toList
def absV : Value → Option V
  | .none => some .non
  | .bool b => some (.bl b)
  | .int i _ => some (.int i)
  | .str x _ => some (.str x)
  | .bytes b _ => some (.byt b)
  | .float b _ => some (.flt b)
  | .ref a => some (.ref a)
  | .type n => some (.ty n)
  | _ => none
theorem RelV.abs {x : V} {u : Value} (r : RelV x u) : absV u = some x := by
  cases x with
  | non => cases r; rfl
  | bl _ => cases r; rfl
  | int _ => obtain ⟨t, rfl⟩ := r; rfl
  | str _ => obtain ⟨t, rfl⟩ := r; rfl
  | byt _ => obtain ⟨t, rfl⟩ := r; rfl
  | flt _ => obtain ⟨t, rfl⟩ := r; rfl
  | ref _ => cases r; rfl
  | ty _ => cases r; rfl
theorem RelV.inj {x y : V} {u : Value} (r : RelV x u) (q : RelV y u) : x = y := Option.some.inj (r.abs.symm.trans q.abs)
theorem Vals.inj : ∀ {xs ys : List V} {us : List Value}, Vals xs us → Vals ys us → xs = ys
  | _, _, _, .nil, .nil => rfl
  | _, _, _, .cons r t, .cons r' t' => by rw [r.inj r', Vals.inj t t']
section
variable {X : Cx} {pins : List (Addr × Obj)} {σ : St} {H : Hp} {s : Shared} {a : Addr} {xs ys : List V}
theorem SqL.of {K : PySem.W.Frag} (h : H a = some (.lst xs)) : SqL K H a xs := .inl (.inl h)
theorem SqT.of {K : PySem.W.Frag} (h : H a = some (.tup xs)) : SqT K H a xs := .inl (.inl h)
theorem Inv.list (I : Inv X pins σ H s) (h : SqL X.K H a xs) : ∃ its : List Value, Vals xs its ∧ PlainL s.heap a its.toArray ∧ xs.length ≤ sizeLine := by
  rcases h with h | ⟨o, its, n, hk, hc, hd, hs, hz, r⟩
  · obtain ⟨z, its, n, r, e⟩ := h.ok I.hok
    exact ⟨its, r, ⟨_, n, e, rfl, rfl, rfl⟩, z⟩
  · refine ⟨its.toList, r, ⟨o, n, I.kIn a o hk, hc, hd, by simpa using hs⟩, ?_⟩
    have e := r.length
    simp only [Array.length_toList] at e
    omega
theorem Inv.tuple (I : Inv X pins σ H s) (h : SqT X.K H a xs) : ∃ its : List Value, Vals xs its ∧ IsTup s.heap a its.toArray ∧ xs.length ≤ sizeLine := by
  rcases h with h | ⟨o, its, n, hk, hc, hs, hz, r⟩
  · obtain ⟨z, its, r, p⟩ := h.ok I.hok
    exact ⟨its, r, p, z⟩
  · refine ⟨its.toList, r, ⟨o, I.kIn a o hk, hc, n, by simpa using hs⟩, ?_⟩
    have e := r.length
    simp only [Array.length_toList] at e
    omega
theorem Inv.list_inj (I : Inv X pins σ H s) (h : SqL X.K H a xs) (h' : SqL X.K H a ys) : xs = ys := by
  obtain ⟨its, r, ⟨o, n, e, _, _, d⟩, _⟩ := I.list h
  obtain ⟨its', r', ⟨o', n', e', _, _, d'⟩, _⟩ := I.list h'
  rw [e] at e'; cases e'
  rw [d] at d'
  injection d' with d1 _
  have : its = its' := by simpa using congrArg Array.toList d1
  subst this
  exact r.inj r'
theorem Inv.tuple_inj (I : Inv X pins σ H s) (h : SqT X.K H a xs) (h' : SqT X.K H a ys) : xs = ys := by
  obtain ⟨its, r, ⟨o, e, _, n, d⟩, _⟩ := I.tuple h
  obtain ⟨its', r', ⟨o', e', _, n', d'⟩, _⟩ := I.tuple h'
  rw [e] at e'; cases e'
  rw [d] at d'
  injection d' with d1 _
  have : its = its' := by simpa using congrArg Array.toList d1
  subst this
  exact r.inj r'
end
abbrev Cx.wish (X : Cx) (E : Value → Shared → Prop) : Cx := { X with xe := E }
abbrev Cx.nox (X : Cx) : Cx := X.wish fun _ _ => False
theorem Cx.Ok.wish {X : Cx} (ok : X.Ok) (E : Value → Shared → Prop) : (X.wish E).Ok :=
  ⟨ok.mod, ok.kind, ok.glob, ok.blt, ok.above, ok.inj, ok.has, ok.cab, ok.hd, ok.frames, ok.stk, ok.exf, ok.bs, ok.bsz, ok.noex, ok.exfs, ok.funs, ok.frf⟩
theorem Cx.Ok.unwish {X : Cx} {E : Value → Shared → Prop} (ok : (X.wish E).Ok) : X.Ok :=
  ⟨ok.mod, ok.kind, ok.glob, ok.blt, ok.above, ok.inj, ok.has, ok.cab, ok.hd, ok.frames, ok.stk, ok.exf, ok.bs, ok.bsz, ok.noex, ok.exfs, ok.funs, ok.frf⟩
section
variable {X : Cx} {pins : List (Addr × Obj)} {σ : St} {H : Hp} {s : Shared} {E : Value → Shared → Prop}
theorem Inv.wish (I : Inv X pins σ H s) (E : Value → Shared → Prop) : Inv (X.wish E) pins σ H s := ⟨I.ok.wish E, I.os, I.bare, I.base, I.loc, I.cell, I.free, I.freeC, I.pin, I.hok, I.len⟩
theorem Inv.unwish (I : Inv (X.wish E) pins σ H s) : Inv X pins σ H s := ⟨I.ok.unwish, I.os, I.bare, I.base, I.loc, I.cell, I.free, I.freeC, I.pin, I.hok, I.len⟩
theorem SP.unwish {D : Ends} {f : Flow} {s' : Shared} (h : SP (X.wish E) pins D f s') : SP X pins D f s' := by
  cases f with
  | next => obtain ⟨σ', H', I, q⟩ := h; exact ⟨σ', H', I.unwish, q⟩
  | brk => obtain ⟨σ', H', I, q⟩ := h; exact ⟨σ', H', I.unwish, q⟩
  | cont => obtain ⟨σ', H', I, q⟩ := h; exact ⟨σ', H', I.unwish, q⟩
  | ret u => obtain ⟨v, σ', H', I, r, q⟩ := h; exact ⟨v, σ', H', I.unwish, r, q⟩
theorem PSs.nox {st : List Stmt} {t : TS} (h : PSs X.nox st t) : PSs X st t := fun pins s σ H D I hw =>
  wpAny_mono (h pins s σ H D (I.wish _) hw) (fun _ _ q => q.unwish) fun _ _ z => False.elim z
end
section
variable {X : Cx} {st : Stmt} {rest : List Stmt} {t u : TS} {e : Expr} {te : TE} {pos : Pos}
def tNext : TS := fun D σ H => D.nx σ H
def tSeq (t u : TS) : TS := fun D σ H => t { D with nx := u D } σ H
theorem pss_nil : PSs X [] tNext := fun _ _ σ H _ I h => wpAny_execs_nil ⟨σ, H, I, h⟩
theorem pss_cons (h1 : PS X st t) (h2 : PSs X rest u) : PSs X (st :: rest) (tSeq t u) := by
  intro pins s σ H D I h
  refine wpAny_execs_cons (thn (h1 pins s σ H { D with nx := u D } I h) fun f s1 q => ?_)
  cases f with
  | next =>
    obtain ⟨σ', H', I', q⟩ := q
    exact h2 pins s1 σ' H' D I' q
  | ret v => exact q
  | brk => exact q
  | cont => exact q
theorem pss_one (h1 : PS X st t) : PSs X [st] t := by
  intro pins s σ H D I h
  refine wpAny_execs_cons (thn (h1 pins s σ H D I h) fun f s1 q => ?_)
  cases f with
  | next => exact wpAny_execs_nil q
  | ret v => exact q
  | brk => exact q
  | cont => exact q
theorem Inv.quiet {pins : List (Addr × Obj)} {σ : St} {H : Hp} {s : Shared} (I : Inv X pins σ H s) : interactive X.env = false := by simp [interactive, I.ok.kind]
def tDrop (te : TE) : TS := fun D σ H => te σ H fun _ H1 => D.nx σ H1
theorem ps_expr (he : PE X e te) (hs : swapsWith e none pos.line X.env = pure false := by rfl) : PS X (.Expr e pos) (tDrop te) := by
  intro pins s σ H D I h
  exact wpAny_Expr_any (thn (he pins s σ H _ I h) fun v s1 ⟨x, H1, I1, r1, q1⟩ => ⟨σ, H1, I1, q1⟩) I.quiet hs
def tRet (te : TE) : TS := fun D σ H => te σ H D.rt
theorem ps_ret (he : PE X e te) : PS X (.Return (some e) pos) (tRet te) := by
  intro pins s σ H D I h
  exact wpAny_Return_some (thn (he pins s σ H _ I h) fun v s1 ⟨x, H1, I1, r1, q1⟩ => ⟨x, σ, H1, I1, r1, q1⟩)
def tIfS (c : TT) (t u : TS) : TS := fun D σ H => c σ H fun b H1 => if b = true then t D σ H1 else u D σ H1
theorem ps_if {c : Expr} {a b : List Stmt} {tc : TT} (hc : PT X c tc) (ha : PSs X a t) (hb : PSs X b u) : PS X (.If c a b pos) (tIfS tc t u) := by
  intro pins s σ H D I h
  refine wpAny_If (thn (hc pins s σ H _ I h) fun d s1 ⟨H1, I1, q1⟩ => ?_)
  cases d with
  | true => exact ha pins s1 σ H1 D I1 q1
  | false => exact hb pins s1 σ H1 D I1 q1
end
abbrev TG := V → St → Hp → (St → Hp → Prop) → Prop
abbrev TGs := List V → St → Hp → (St → Hp → Prop) → Prop
def PG (X : Cx) (target : Expr) (t : TG) : Prop :=
  ∀ (pins : List (Addr × Obj)) (s : Shared) (σ : St) (H : Hp) (v : V) (u : Value) (Q : St → Hp → Prop), Inv X pins σ H s → RelV v u → t v σ H Q →
    wpAny (model X.prog X.w) X.A (assign target X.env u) (fun _ s' => ∃ σ' H', Inv X pins σ' H' s' ∧ Q σ' H') X.xe s
def PGs (X : Cx) (ts : List Expr) (t : TGs) : Prop :=
  ∀ (pins : List (Addr × Obj)) (s : Shared) (σ : St) (H : Hp) (vs : List V) (us : List Value) (Q : St → Hp → Prop), Inv X pins σ H s → Vals vs us → t vs σ H Q →
    wpAny (model X.prog X.w) X.A (assignInOrder ((assignEach ts X.env).map (·.2)) us) (fun _ s' => ∃ σ' H', Inv X pins σ' H' s' ∧ Q σ' H') X.xe s
abbrev TSet := V → V → V → Hp → (Hp → Prop) → Prop
def PSet (X : Cx) (t : TSet) : Prop :=
  ∀ (pins : List (Addr × Obj)) (s : Shared) (σ : St) (H : Hp) (o i v : V) (ov iv u : Value) (Q : Hp → Prop), Inv X pins σ H s → RelV o ov → RelV i iv → RelV v u → t o i v H Q →
    wpAny (model X.prog X.w) X.A (setItem ov iv u) (fun _ s' => ∃ H', Inv X pins σ H' s' ∧ Q H') X.xe s
abbrev TIp := V → V → Hp → VK → Prop
def PIp (X : Cx) (op : Operator) (t : TIp) : Prop :=
  ∀ (pins : List (Addr × Obj)) (s : Shared) (σ : St) (H : Hp) (x y : V) (v u : Value) (Q : VK), Inv X pins σ H s → RelV x v → RelV y u → t x y H Q →
    wpAny (model X.prog X.w) X.A (inplaceOp op v u) (EP X pins σ Q) X.xe s
section
variable {X : Cx} {pos : Pos}
def gName (i : Nat) : TG := fun v σ H Q => Q (σ.set i (some v)) H
theorem pg_name {i : Nat} {x : Str} (hN : X.N.Nodup) (hi : X.N[i]? = some x) (hx : Loc X.env.scope x) (hf : X.fn x = true ∨ X.env.scope.names.lookup x = some .local := by first | exact .inl rfl | exact .inr rfl | assumption) : PG X (.Name x pos) (gName i) := by
  intro pins s σ H v u Q I r h
  exact wpAny_assign_Name (store_ok I hN hi hx r (fun s' I' => ⟨_, H, I', h⟩) hf)
def gNil : TGs := fun vs σ H Q => vs = [] ∧ Q σ H
def gCons (t : TG) (u : TGs) : TGs := fun vs σ H Q => ∃ v r, vs = v :: r ∧ t v σ H fun σ' H' => u r σ' H' Q
theorem pgs_nil : PGs X [] gNil := by
  intro pins s σ H vs us Q I r h
  obtain ⟨e, h⟩ := h
  subst e
  cases r
  exact assignInOrder_nil ⟨σ, H, I, h⟩
theorem pgs_cons {e : Expr} {es : List Expr} {t : TG} {u : TGs} (h1 : PG X e t) (h2 : PGs X es u)
    (hs : (assignEach (e :: es) X.env).map (·.2) = assign e X.env :: (assignEach es X.env).map (·.2) := by rfl) : PGs X (e :: es) (gCons t u) := by
  intro pins s σ H vs us Q I r h
  obtain ⟨v, vr, e1, h⟩ := h
  subst e1
  cases r with
  | cons r rr =>
    rw [hs]
    refine assignInOrder_cons (thn (h1 pins s σ H _ _ _ I r h) fun _ s1 ⟨σ1, H1, I1, q1⟩ => ?_)
    exact h2 pins s1 σ1 H1 _ _ Q I1 rr q1
def gTup (K : PySem.W.Frag) (n : Nat) (t : TGs) : TG := fun v σ H Q => ∃ a xs, v = .ref a ∧ SqT K H a xs ∧ xs.length = n ∧ t xs σ H Q
theorem pg_tup {es : List Expr} {k : Nat} {t : TGs} {n : Nat} (hc : X.calm = true) (h : PGs X es t)
    (hn : (assignEach es X.env).length = n := by rfl) (hst : (assignEach es X.env).findIdx? (·.1) = none := by rfl) : PG X (.Tuple es k pos) (gTup X.K n t) := by
  intro pins s σ H v u Q I r hw
  obtain ⟨a, xs, e1, hq, hl, hw⟩ := hw
  subst e1
  cases r
  obtain ⟨its, rv, ht, hz⟩ := I.tuple hq
  refine assign_Tuple_tuple (I.ok.hd hc) ht (by simp [hn, ← hl, rv.length]) hst fun h' hx => ?_
  have I1 : Inv X pins σ H { s with heap := h' } := I.kept (t' := s.toks) fun b o e => hx b o (Nat.ne_of_lt (Heap.lt_size e)) e
  exact h pins _ σ H xs _ Q I1 (by simpa using rv) hw
def gSub (to ti : TE) (t : TSet) : TG := fun v σ H Q => to σ H fun o H1 => ti σ H1 fun i H2 => t o i v H2 fun H3 => Q σ H3
theorem pg_sub {o i : Expr} {to ti : TE} {t : TSet} (ho : PE X o to) (hi : PE X i ti) (hs : PSet X t)
    (ha : ∀ v, assign (.Subscript o i pos) X.env v = (do
      let ov ← holding [v] (eval o X.env)
      let iv ← holding [v, ov] (eval i X.env)
      standAt pos
      holding [v, ov, iv] (setItem ov iv v)
      release [v, ov, iv] []) := by intro _; rfl) : PG X (.Subscript o i pos) (gSub to ti t) := by
  intro pins s σ H v u Q I r h
  rw [ha]
  refine wpAny_bind (wpAny_holding (thn (ho pins s σ H _ I h) fun ov s1 ⟨x, H1, I1, r1, q1⟩ => ?_))
  refine wpAny_bind (wpAny_holding (thn (hi pins s1 σ H1 _ I1 q1) fun iv s2 ⟨y, H2, I2, r2, q2⟩ => ?_))
  refine wpAny_bind (wpAny_standAt (wpAny_bind (wpAny_holding (thn (hs pins s2 σ H2 x y v ov iv u _ I2 r1 r2 r q2) fun _ s3 ⟨H3, I3, q3⟩ => ?_))))
  exact wpAny_release ⟨σ, H3, I3, q3⟩
def tAsg (te : TE) (g : TG) : TS := fun D σ H => te σ H fun x H1 => g x σ H1 D.nx
theorem ps_asg {tg e : Expr} {te : TE} {g : TG} (he : PE X e te) (hg : PG X tg g) (hs : swapsWithSole [tg] e pos.line X.env = pure false := by rfl) (hw : swappedStores [tg] e X.env = pure none := by rfl)
    (h1 : (assignEach [tg] X.env).map (·.2) = [assign tg X.env] := by rfl) : PS X (.Assign [tg] e pos) (tAsg te g) := by
  intro pins s σ H D I h
  refine wpAny_Assign_stores (thn (he pins s σ H _ I h) fun v s1 ⟨x, H1, I1, r1, q1⟩ => ?_) hs hw
  rw [h1]
  exact thn (hg pins s1 σ H1 x v _ I1 r1 q1) fun _ s2 q => q
theorem ps_set {i : Nat} {x : Str} {e : Expr} {te : TE} {pos' : Pos} (hN : X.N.Nodup) (hi : X.N[i]? = some x) (hx : Loc X.env.scope x) (he : PE X e te) (hs : swapsWith e (some (.Name x pos')) pos.line X.env = pure false := by rfl) (hf : X.fn x = true ∨ X.env.scope.names.lookup x = some .local := by first | exact .inl rfl | exact .inr rfl | assumption) :
    PS X (.Assign [.Name x pos'] e pos) (tAsg te (gName i)) := by
  intro pins s σ H D I h
  refine wpAny_Assign_Name (thn (he pins s σ H _ I h) fun v s1 ⟨y, H1, I1, r1, q1⟩ => ?_) hs
  exact store_ok I1 hN hi hx r1 (fun s2 I2 => ⟨_, H1, I2, q1⟩) hf
def tAug (i : Nat) (te : TE) (ti : TIp) : TS := fun D σ H => ∃ x, σ[i]? = some (some x) ∧ te σ H fun y H1 => ti x y H1 fun z H2 => D.nx (σ.set i (some z)) H2
theorem ps_aug {i : Nat} {x : Str} {e : Expr} {te : TE} {op : Operator} {ti : TIp} {pos' : Pos} (hN : X.N.Nodup) (hi : X.N[i]? = some x) (hx : Loc X.env.scope x) (he : PE X e te) (ho : PIp X op ti) (hf : X.fn x = true ∨ X.env.scope.names.lookup x = some .local := by first | exact .inl rfl | exact .inr rfl | assumption) :
    PS X (.AugAssign (.Name x pos') op e pos) (tAug i te ti) := by
  intro pins s σ H D I h
  obtain ⟨v, e1, h⟩ := h
  obtain ⟨m, hn, hl⟩ := I.loc
  have vis : Vis X.env.scope x := by rcases hx with k | k; exact .inl k; exact .inr (.inl k)
  obtain ⟨u, r, l⟩ := hl i x v hi e1 vis
  refine wpAny_AugAssign_Name ?_
  have go : wpAny (model X.prog X.w) X.A (eval e X.env) (fun w s₂ => wpAny (model X.prog X.w) X.A (inplaceOp op u w) (fun r s₃ => wpAny (model X.prog X.w) X.A (storeName X.env x r) (fun _ => SP X pins D .next) X.xe s₃) X.xe s₂) X.xe s := by
    refine thn (he pins s σ H _ I h) fun w s1 ⟨y, H1, I1, r1, q1⟩ => ?_
    refine thn (ho pins s1 σ H1 v y u w _ I1 r r1 q1) fun z s2 ⟨zv, H2, I2, r2, q2⟩ => ?_
    exact store_ok I2 hN hi hx r2 (fun s3 I3 => ⟨_, H2, I3, q2⟩) hf
  rcases l with ⟨hk, hm⟩ | ⟨hk, c, hc, hcell⟩
  · exact wpAny_loadName_local I.ok.kind hk hn hm go
  · rcases hk with hk | hk
    · exact wpAny_loadName_cell I.ok.kind hk hc hcell go
    · rcases hx with k | k
      · have : X.env.scope.names.lookup x = some .free := hk
        rw [k] at this; cases this
      · have : X.env.scope.names.lookup x = some .free := hk
        rw [k] at this; cases this
def ipI (f : Int → Int → Int) : TIp := fun x y H Q => ∃ i j, x = .int i ∧ y = .int j ∧ Q (.int (f i j)) H
theorem ip_add : PIp X .Add (ipI fun i j => i + j) := by
  intro pins s σ H x y v u Q I r1 r2 h
  obtain ⟨i, j, e1, e2, q⟩ := h
  subst e1; subst e2
  obtain ⟨t, rfl⟩ := r1
  obtain ⟨t', rfl⟩ := r2
  exact iadd_int ⟨.int _, H, I.tok _, ⟨_, rfl⟩, q⟩
end
section
variable {X : Cx} {pos : Pos}
def tWhile (c : TT) (tb : TS) : TS := fun D σ H => ∃ W : Nat → St → Hp → Prop, (∃ m, W m σ H) ∧ ∀ m σ H, W m σ H →
  c σ H fun b H1 => if b = true then ∃ N : St → Hp → Prop, (∀ σ' H', N σ' H' → ∃ m', m' < m ∧ W m' σ' H') ∧ tb { D with nx := N, ct := N, bk := D.nx } σ H1 else D.nx σ H1
theorem ps_while {c : Expr} {body : List Stmt} {tc : TT} {tb : TS} (hp : PassesOwn (model X.prog X.w) X.A X.env X.xe) (hc : PT X c tc) (hb : PSs X body tb) : PS X (.While c body [] pos) (tWhile tc tb) := by
  intro pins s σ H D I h
  obtain ⟨W, ⟨m0, w0⟩, turn⟩ := h
  refine wpAny_While (codeAny_whileLoop (fun n s' => ∃ σ' H', Inv X pins σ' H' s' ∧ W n σ' H') ?_ m0 ⟨σ, H, I, w0⟩)
  rintro n s1 ⟨σ1, H1, I1, w1⟩
  refine wpAny_passesOwn hp (thn (hc pins s1 σ1 H1 _ I1 (turn n σ1 H1 w1)) fun b s2 ⟨H2, I2, q2⟩ => ?_)
  cases b with
  | true =>
    obtain ⟨N, hN, q2⟩ := q2
    rw [if_pos rfl]
    refine wpAny_passesOwn hp (thn (hb pins s2 σ1 H2 _ I2 q2) fun f s3 q3 => ?_)
    cases f with
    | next =>
      obtain ⟨σ3, H3, I3, n3⟩ := q3
      obtain ⟨m', hm, w3⟩ := hN σ3 H3 n3
      exact ⟨m', hm, σ3, H3, I3, w3⟩
    | cont =>
      obtain ⟨σ3, H3, I3, n3⟩ := q3
      obtain ⟨m', hm, w3⟩ := hN σ3 H3 n3
      exact ⟨m', hm, σ3, H3, I3, w3⟩
    | brk => exact q3
    | ret v => exact q3
  | false =>
    rw [if_neg Bool.false_ne_true]
    exact wpAny_execs_nil ⟨σ1, H2, I2, q2⟩
end
structure It where
  go : Nat → Hp → Prop
  yld : Nat → Hp → V → Hp → Prop
  stop : Nat → Hp → Prop
def FpOk (X : Cx) (pins : List (Addr × Obj)) (H : Hp) (b : Addr) : Prop :=
  H b = none ∧ b ≠ X.env.locals ∧ b ∉ X.fs ∧ (b ∈ X.ex ∨ X.s₀.heap.objs.size ≤ b) ∧ (∀ x c, X.env.cells.lookup x = some c → c ≠ b) ∧ ∀ p ∈ X.pn ++ pins, p.1 ≠ b
theorem Inv.fpOk {X : Cx} {pins : List (Addr × Obj)} {σ : St} {H H' : Hp} {s : Shared} {b : Addr} (I : Inv X pins σ H s) (hb : s.heap.objs.size ≤ b) (hn : H' b = none) : FpOk X pins H' b := by
  refine ⟨hn, Nat.ne_of_gt (Nat.lt_of_lt_of_le I.lt hb), I.nofs hb, .inr (Nat.le_trans I.sz hb), fun x c e z => ?_, fun p hp z => ?_⟩
  · obtain ⟨v, q⟩ := I.cell x c e
    exact absurd (Nat.lt_of_lt_of_le q.lt (by rw [z]; exact hb)) (Nat.lt_irrefl _)
  · exact absurd (Nat.lt_of_lt_of_le (Heap.lt_size (I.pin p hp).1) (by rw [z]; exact hb)) (Nat.lt_irrefl _)
structure Turn (P : Program) (w : World) (K : PySem.W.Frag) (tg : Expr) (J : It) (fp : List Addr) (it : Addr) (tn : Nat → Heap → Prop) : Prop where
  mem : it ∈ fp
  obj : ∀ i h, tn i h → ∀ b ∈ fp, ∃ o, h.get? b = some o ∧ ∀ v, o.data ≠ .cell v
  keep : ∀ i h h', tn i h → (∀ b ∈ fp, ∀ o, h.get? b = some o → h'.get? b = some o) → tn i h'
  item : ∀ (X : Cx), X.prog = P → X.w = w → X.K = K → X.calm = true → ∀ (i : Nat) (pins : List (Addr × Obj)) (s : Shared) (σ : St) (H : Hp) (E : Value → Shared → Prop), Inv X pins σ H s → (∀ b ∈ fp, FpOk X pins H b) → tn i s.heap → J.go i H →
    wpAny (model P w) X.A (pyNext (.ref it)) (fun r s1 => ∃ u, r = some u ∧
      wpAny (model P w) X.A (letOwnedTupleGo tg (.ref it) u) (fun _ s2 => ∃ x H', Inv X pins σ H' s2 ∧ RelV x u ∧ J.yld i H x H' ∧ tn (i + 1) s2.heap ∧ ∀ b ∈ fp, H' b = none) E s1) E s
  done : ∀ (X : Cx), X.prog = P → X.w = w → X.K = K → X.calm = true → ∀ (i : Nat) (pins : List (Addr × Obj)) (s : Shared) (σ : St) (H : Hp) (E : Value → Shared → Prop), Inv X pins σ H s → (∀ b ∈ fp, FpOk X pins H b) → tn i s.heap → J.stop i H →
    wpAny (model P w) X.A (pyNext (.ref it)) (fun r s1 => r = none ∧ Inv X pins σ H s1) E s
  self : ∀ (A : Around) (i : Nat) (s : Shared) (Q : Value → Shared → Prop) (E : Value → Shared → Prop), tn i s.heap → Q (.ref it) s → wpAny (model P w) A (pyIter (.ref it)) Q E s
abbrev TI := St → Hp → (It → Hp → Prop) → Prop
def PIE (X : Cx) (pins : List (Addr × Obj)) (σ : St) (tg : Expr) (R : It → Hp → Prop) (itv : Value) (s2 : Shared) : Prop :=
  ∃ (it : Addr) (fp : List Addr) (tn : Nat → Heap → Prop) (J : It) (H' : Hp), itv = .ref it ∧ Inv X pins σ H' s2 ∧ Turn X.prog X.w X.K tg J fp it tn ∧ tn 0 s2.heap ∧ (∀ b ∈ fp, FpOk X pins H' b) ∧ R J H'
def PI (X : Cx) (tg iter : Expr) (wi : TI) : Prop :=
  ∀ (pins : List (Addr × Obj)) (s : Shared) (σ : St) (H : Hp) (R : It → Hp → Prop), Inv X pins σ H s → wi σ H R →
    wpAny (model X.prog X.w) X.A (eval iter X.env) (fun v s1 => wpAny (model X.prog X.w) X.A (pyIter v) (PIE X pins σ tg R) X.xe s1) X.xe s
theorem go_of {M : Model} {A : Around} {E : Value → Shared → Prop} {s : Shared} {tg : Expr} {it : Addr} {u : Value} {o : Obj} {n : String} {vs : Array Value} {Q : Unit → Shared → Prop} (ho : s.heap.get? it = some o) (hc : o.cls = .type n) (hd : o.data = .fields vs)
    (hn : ["enumerate", "zip", "dict_itemiterator", "dict_reverseitemiterator", "odict_iterator", "itertools.zip_longest", "itertools.pairwise"].contains n = false) (hQ : Q () s) : wpAny M A (letOwnedTupleGo tg (.ref it) u) Q E s := by
  unfold letOwnedTupleGo
  cases tg <;> first
    | exact wpAny_pure hQ
    | (cases u <;> first
        | exact wpAny_pure hQ
        | (refine wpAny_bind (wpAny_load ho ?_)
           rw [hc, hd]
           show wpAny M A (if (["enumerate", "zip", "dict_itemiterator", "dict_reverseitemiterator", "odict_iterator", "itertools.zip_longest", "itertools.pairwise"].contains n && vs[0]? == some (rawInt _)) = true then _ else _) Q E s
           rw [if_neg (by intro h; rw [hn, Bool.false_and] at h; cases h)]
           exact wpAny_pure hQ))
def Itl (K : PySem.W.Frag) (a : Addr) : It :=
  ⟨fun i H => ∃ xs x, SqL K H a xs ∧ xs[i]? = some x, fun i H x H' => H' = H ∧ ∀ xs, SqL K H a xs → xs[i]? = some x, fun i H => ∃ xs, SqL K H a xs ∧ xs.length ≤ i⟩
def Itt (K : PySem.W.Frag) (a : Addr) : It :=
  ⟨fun i H => ∃ xs x, SqT K H a xs ∧ xs[i]? = some x, fun i H x H' => H' = H ∧ ∀ xs, SqT K H a xs → xs[i]? = some x, fun i H => ∃ xs, SqT K H a xs ∧ xs.length ≤ i⟩
def Itr (lo : Int) (n : Nat) : It := ⟨fun i _ => i < n, fun i H x H' => H' = H ∧ x = .int (lo + i), fun i _ => n ≤ i⟩
theorem turn_list {P : Program} {w : World} {K : PySem.W.Frag} {tg : Expr} (a it : Addr) : Turn P w K tg (Itl K a) [it] it (fun i h => h.IsListIter it a i) where
  mem := by simp
  obj := fun i h st b hb => by
    have e : b = it := by simpa using hb
    subst e
    obtain ⟨o, e, c, d⟩ := st
    exact ⟨o, e, fun v z => by rw [d] at z; cases z⟩
  keep := fun i h h' st k => st.at fun o e => k it (by simp) o e
  item := by
    intro X hP hw hK hc i pins s σ H E I hf st hg
    subst hP hw hK
    obtain ⟨xs, x, hq, hx⟩ := hg
    obtain ⟨its, rv, p, hz⟩ := I.list hq
    obtain ⟨u, hu, ru⟩ := rv.get hx
    obtain ⟨f0, f1, f2, f3, f4, f5⟩ := hf it (by simp)
    refine wpAny_pyNext_list_item st p.isList (x := u) (by simpa using hu) fun h' st' sb => ?_
    have I1 : Inv X pins σ H { s with heap := h' } := I.turned (t' := s.toks) (fun b o hb e => (sb.2 b hb).trans e) f0 f1 f3 f4 f5
    obtain ⟨o, e, c, d⟩ := id st'
    exact ⟨u, rfl, go_of (s := { s with heap := h' }) e c d (by decide) ⟨x, H, I1, ru, ⟨rfl, fun ys hy => by rw [I.list_inj hy hq]; exact hx⟩, st', fun b hb => (hf b hb).1⟩⟩
  done := by
    intro X hP hw hK hc i pins s σ H E I hf st hg
    subst hP hw hK
    obtain ⟨xs, hq, hx⟩ := hg
    obtain ⟨its, rv, p, hz⟩ := I.list hq
    obtain ⟨f0, f1, f2, f3, f4, f5⟩ := hf it (by simp)
    have hl := rv.length
    exact wpAny_pyNext_list_end (I.ok.hd hc) st p.isList (by simp; omega) fun h' eb => ⟨rfl, I.turned (t' := s.toks) (fun b o hb e => eb b o hb e) f0 f1 f3 f4 f5⟩
  self := fun _ _ _ _ _ st h => wpAny_pyIter_listiter st h
theorem turn_tuple {P : Program} {w : World} {K : PySem.W.Frag} {tg : Expr} (a it : Addr) : Turn P w K tg (Itt K a) [it] it (fun i h => h.IsTupleIter it a i) where
  mem := by simp
  obj := fun i h st b hb => by
    have e : b = it := by simpa using hb
    subst e
    obtain ⟨o, e, c, d⟩ := st
    exact ⟨o, e, fun v z => by rw [d] at z; cases z⟩
  keep := fun i h h' st k => st.at fun o e => k it (by simp) o e
  item := by
    intro X hP hw hK hc i pins s σ H E I hf st hg
    subst hP hw hK
    obtain ⟨xs, x, hq, hx⟩ := hg
    obtain ⟨its, rv, p, hz⟩ := I.tuple hq
    obtain ⟨u, hu, ru⟩ := rv.get hx
    obtain ⟨f0, f1, f2, f3, f4, f5⟩ := hf it (by simp)
    refine wpAny_pyNext_tuple_item st (show s.heap.IsTuple a its.toArray from p) (x := u) (by simpa using hu) fun h' st' sb => ?_
    have I1 : Inv X pins σ H { s with heap := h' } := I.turned (t' := s.toks) (fun b o hb e => (sb.2 b hb).trans e) f0 f1 f3 f4 f5
    obtain ⟨o, e, c, d⟩ := id st'
    exact ⟨u, rfl, go_of (s := { s with heap := h' }) e c d (by decide) ⟨x, H, I1, ru, ⟨rfl, fun ys hy => by rw [I.tuple_inj hy hq]; exact hx⟩, st', fun b hb => (hf b hb).1⟩⟩
  done := by
    intro X hP hw hK hc i pins s σ H E I hf st hg
    subst hP hw hK
    obtain ⟨xs, hq, hx⟩ := hg
    obtain ⟨its, rv, p, hz⟩ := I.tuple hq
    obtain ⟨f0, f1, f2, f3, f4, f5⟩ := hf it (by simp)
    have hl := rv.length
    exact wpAny_pyNext_tuple_end (I.ok.hd hc) st (show s.heap.IsTuple a its.toArray from p) (by simp; omega) fun h' eb => ⟨rfl, I.turned (t' := s.toks) (fun b o hb e => eb b o hb e) f0 f1 f3 f4 f5⟩
  self := fun _ _ _ _ _ st h => wpAny_pyIter_tupleiter st h
theorem turn_range {P : Program} {w : World} {K : PySem.W.Frag} {tg : Expr} (it : Addr) (lo : Int) (n : Nat) : Turn P w K tg (Itr lo n) [it] it (fun i h => IsRangeIter h it (lo + (i : Nat) * 1) ((n : Int) - (i : Nat)) 1) where
  mem := by simp
  obj := fun i h st b hb => by
    have e : b = it := by simpa using hb
    subst e
    exact ⟨_, st, fun v z => by
      have z' : Data.fields _ = Data.cell v := z
      cases z'⟩
  keep := fun i h h' st k => k it (by simp) _ st
  item := by
    intro X hP hw hK hc i pins s σ H E I hf st hg
    subst hP hw hK
    obtain ⟨f0, f1, f2, f3, f4, f5⟩ := hf it (by simp)
    have W := Walks.range (prog := X.prog) (w := X.w) (I.ok.hd hc) it lo 1 n
    refine W.item i s _ _ hg st fun v h' tk hv st' kk => ?_
    obtain ⟨t, rfl⟩ := hv
    have I1 : Inv X pins σ H { s with heap := h', toks := tk } := I.turned (fun b o hb e => kk b o (by simpa using hb) e) f0 f1 f3 f4 f5
    refine ⟨_, rfl, go_of (s := { s with heap := h', toks := tk }) (n := "range_iterator") st' rfl rfl (by decide) ⟨.int (lo + i), H, I1, ⟨t, ?_⟩, ⟨rfl, rfl⟩, st', fun b hb => (hf b hb).1⟩⟩
    rw [Int.mul_one]
  done := by
    intro X hP hw hK hc i pins s σ H E I hf st hg
    subst hP hw hK
    obtain ⟨f0, f1, f2, f3, f4, f5⟩ := hf it (by simp)
    exact wpAny_pyNext_range_end (I.ok.hd hc) st (by have : n ≤ i := hg; omega) fun h' eb => ⟨rfl, I.turned (t' := s.toks) (fun b o hb e => eb b o hb e) f0 f1 f3 f4 f5⟩
  self := fun _ _ _ _ _ st h => wpAny_pyIter_rangeiter st h
end L2
namespace L2
open PySem PySem.Spec PyProof.Rows
section
variable {X : Cx} {tg : Expr}
def iList (K : PySem.W.Frag) (tl : TE) : TI := fun σ H R => tl σ H fun x H1 => ∃ a, x = .ref a ∧ (∃ xs, SqL K H1 a xs) ∧ R (Itl K a) H1
def iTup (K : PySem.W.Frag) (tl : TE) : TI := fun σ H R => tl σ H fun x H1 => ∃ a, x = .ref a ∧ (∃ xs, SqT K H1 a xs) ∧ R (Itt K a) H1
theorem pi_list {l : Expr} {tl : TE} (hl : PE X l tl) : PI X tg l (iList X.K tl) := by
  intro pins s σ H R I h
  refine thn (hl pins s σ H _ I h) fun v s1 ⟨x, H1, I1, r1, q1⟩ => ?_
  obtain ⟨a, e, ⟨xs, hq⟩, q⟩ := q1
  subst e
  cases r1
  obtain ⟨its, rv, p, hz⟩ := I1.list hq
  refine wpAny_pyIter_list p.isList ?_
  refine ⟨s1.heap.objs.size, [s1.heap.objs.size], _, _, H1, rfl, I1.kept (t' := s1.toks) fun b o e => Heap.get?_push_of_some _ e, turn_list a _, ⟨_, Heap.get?_push_size _ rfl, rfl, rfl⟩, fun b hb => ?_, q⟩
  have e : b = s1.heap.objs.size := by simpa using hb
  subst e
  exact I1.fpOk (Nat.le_refl _) (I1.hok.fresh (Nat.le_refl _))
theorem pi_tup {l : Expr} {tl : TE} (hl : PE X l tl) : PI X tg l (iTup X.K tl) := by
  intro pins s σ H R I h
  refine thn (hl pins s σ H _ I h) fun v s1 ⟨x, H1, I1, r1, q1⟩ => ?_
  obtain ⟨a, e, ⟨xs, hq⟩, q⟩ := q1
  subst e
  cases r1
  obtain ⟨its, rv, p, hz⟩ := I1.tuple hq
  refine wpAny_pyIter_tuple (show s1.heap.IsTuple a its.toArray from p) ?_
  refine ⟨s1.heap.objs.size, [s1.heap.objs.size], _, _, H1, rfl, I1.kept (t' := s1.toks) fun b o e => Heap.get?_push_of_some _ e, turn_tuple a _, ⟨_, Heap.get?_push_size _ rfl, rfl, rfl⟩, fun b hb => ?_, q⟩
  have e : b = s1.heap.objs.size := by simpa using hb
  subst e
  exact I1.fpOk (Nat.le_refl _) (I1.hok.fresh (Nat.le_refl _))
theorem range_it {pins : List (Addr × Obj)} {σ : St} {H : Hp} {s : Shared} {R : It → Hp → Prop} {E : Value → Shared → Prop} {lo hi : Int} {t u v : Tok} {tk : Nat} (I : Inv X pins σ H s) (h1 : -(2 ^ 62) ≤ lo) (h2 : lo < 2 ^ 62) (h3 : -(2 ^ 62) ≤ hi) (h4 : hi < 2 ^ 62)
    (q : R (Itr lo (hi - lo).toNat) H) : wpAny (model X.prog X.w) X.A (pyIter (.ref s.heap.objs.size)) (PIE X pins σ tg R) E { s with heap := s.heap.push { cls := .type "range", data := .fields #[.int lo t, .int hi u, .int 1 v] }, toks := tk } := by
  refine wpAny_pyIter_range (IsRange.new ..) (small_one h1 h2 h3 h4) ?_
  have I1 : Inv X pins σ H { s with heap := s.heap.push { cls := .type "range", data := .fields #[.int lo t, .int hi u, .int 1 v] }, toks := tk } := I.kept fun b o e => Heap.get?_push_of_some _ e
  refine ⟨(s.heap.push { cls := .type "range", data := .fields #[.int lo t, .int hi u, .int 1 v] }).objs.size, [(s.heap.push { cls := .type "range", data := .fields #[.int lo t, .int hi u, .int 1 v] }).objs.size], _, _, H, rfl,
    I1.kept (t' := tk) fun b o e => Heap.get?_push_of_some _ e, turn_range _ lo (hi - lo).toNat, ?_, fun b hb => ?_, q⟩
  · have e1 : lo + ((0 : Nat) : Int) * 1 = lo := by simp
    have e2 : (((hi - lo).toNat : Nat) : Int) - ((0 : Nat) : Int) = Builtin.Range.rangeSize lo hi 1 := by rw [rangeSize_one]; split <;> omega
    show IsRangeIter _ _ (lo + ((0 : Nat) : Int) * 1) ((((hi - lo).toNat : Nat) : Int) - ((0 : Nat) : Int)) 1
    rw [e1, e2]
    exact Heap.get?_push_size _ rfl
  · have e : b = (s.heap.push { cls := .type "range", data := .fields #[.int lo t, .int hi u, .int 1 v] }).objs.size := by simpa using hb
    subst e
    exact I1.fpOk (Nat.le_refl _) (I1.hok.fresh (Nat.le_refl _))
def iRng1 (ta : TA) : TI := fun σ H R => ta σ H fun vs H1 => ∃ j : Int, vs = [.int j] ∧ -(2 ^ 62) ≤ j ∧ j < 2 ^ 62 ∧ R (Itr 0 j.toNat) H1
theorem pi_range1 {a : Expr} {ta : TA} {p pos : Pos} (hg : Gl X "range") (hm : X.mg "range" = none) (ha : PA X [a] ta) (hs : starEach [a] X.env = [(false, eval a X.env)] := by rfl) : PI X tg (.Call (.Name "range" p) [a] [] pos) (iRng1 ta) := by
  intro pins s σ H R I h
  refine Call_ (ld_blt I hg hm boot_range (PyProof.Rows.callWith_type1 (thn (ha pos pins s σ H _ I h) fun us s1 ⟨vs, H1, I1, r1, q1⟩ => ?_) hs rfl))
  obtain ⟨j, e, q1, q2, q⟩ := q1
  subst e
  cases r1 with
  | cons r rr =>
    cases rr
    obtain ⟨t, rfl⟩ := r
    exact call_range_1 (range_it I1 (by omega) (by omega) q1 q2 (by simpa using q))
def tFor (wi : TI) (g : TG) (tb : TS) : TS := fun D σ H => wi σ H fun J H1 => ∃ W : Nat → Nat → St → Hp → Prop, (∃ m, W 0 m σ H1) ∧ ∀ i m σ H, W i m σ H →
  (J.stop i H ∧ D.nx σ H) ∨ (J.go i H ∧ ∃ N : St → Hp → Prop, (∀ σ' H', N σ' H' → ∃ m', m' < m ∧ W (i + 1) m' σ' H') ∧ ∀ x H', J.yld i H x H' → g x σ H' fun σ2 H2 => tb { D with nx := N, ct := N, bk := D.nx } σ2 H2)
def pinsAt (fp : List Addr) (h : Heap) : List (Addr × Obj) := fp.filterMap fun b => (h.get? b).map fun o => (b, o)
theorem mem_pinsAt {fp : List Addr} {h : Heap} {b : Addr} {o : Obj} (hb : b ∈ fp) (e : h.get? b = some o) : (b, o) ∈ pinsAt fp h := List.mem_filterMap.mpr ⟨b, hb, by rw [e]; rfl⟩
theorem of_pinsAt {fp : List Addr} {h : Heap} {p : Addr × Obj} (hp : p ∈ pinsAt fp h) : p.1 ∈ fp ∧ h.get? p.1 = some p.2 := by
  obtain ⟨b, hb, e⟩ := List.mem_filterMap.mp hp
  cases q : h.get? b with
  | none => rw [q] at e; cases e
  | some o =>
    rw [q] at e
    have e' : (b, o) = p := Option.some.inj e
    subst e'
    exact ⟨hb, q⟩
theorem Inv.pinned {pins : List (Addr × Obj)} {σ : St} {H : Hp} {s : Shared} {fp : List Addr} (I : Inv X pins σ H s) (hf : ∀ b ∈ fp, FpOk X pins H b) (ho : ∀ b ∈ fp, ∃ o, s.heap.get? b = some o ∧ ∀ v, o.data ≠ .cell v) : Inv X (pins ++ pinsAt fp s.heap) σ H s :=
  I.pins_of fun p hp => (List.mem_append.mp hp).elim (fun z => I.pin p (List.mem_append_right _ z)) fun z => by
    obtain ⟨hb, e⟩ := of_pinsAt z
    obtain ⟨f0, f1, f2, _⟩ := hf p.1 hb
    obtain ⟨o, e', d⟩ := ho p.1 hb
    rw [e] at e'; cases e'
    exact ⟨e, f0, f1, f2, d⟩
theorem Inv.unpinned {pins pl : List (Addr × Obj)} {σ : St} {H : Hp} {s : Shared} (I : Inv X (pins ++ pl) σ H s) : Inv X pins σ H s := I.pins_of fun p hp => I.pin p (List.mem_append_right _ (List.mem_append_left _ hp))
theorem ps_for {iter : Expr} {body : List Stmt} {wi : TI} {g : TG} {tb : TS} {pos : Pos} (hp : PassesOwn (model X.prog X.w) X.A X.env X.xe) (hc : X.calm = true) (hi : PI X tg iter wi) (hg : PG X tg g) (hb : PSs X body tb)
    (hs : ∀ x, foldedSetIterable iter X.env x = pure x := by intro _; rfl) : PS X (.For tg iter body [] pos) (tFor wi g tb) := by
  intro pins s σ H D I h
  refine wpAny_For (thn (hi pins s σ H _ I h) fun v s1 h1 => thn h1 fun itv s2 h2 => ?_) hs
  obtain ⟨it, fp, tn, J, H2, e, I2, T, st2, f2, W, ⟨m0, w0⟩, turn⟩ := h2
  subst e
  -- what stays true of the iterator's objects through the loop
  have stat : ∀ {H' : Hp}, (∀ b ∈ fp, H' b = none) → ∀ b ∈ fp, FpOk X pins H' b := fun hn b hb => ⟨hn b hb, (f2 b hb).2⟩
  refine codeAny_forLoop_any (fun n s' => ∃ i σ' H', Inv X pins σ' H' s' ∧ tn i s'.heap ∧ (∀ b ∈ fp, H' b = none) ∧ W i n σ' H') ?_ m0 ⟨0, σ, H2, I2, st2, fun b hb => (f2 b hb).1, w0⟩
  rintro n s3 ⟨i, σ3, H3, I3, st3, fr3, w3⟩
  rcases turn i n σ3 H3 w3 with ⟨stop, qn⟩ | ⟨go, N, hN, step⟩
  · refine wpAny_passesOwn hp (thn (T.done X rfl rfl rfl hc i pins s3 σ3 H3 X.xe I3 (stat fr3) st3 stop) fun r s4 ⟨hr, I4⟩ => ?_)
    subst hr
    exact wpAny_execs_nil ⟨σ3, H3, I4, qn⟩
  · refine wpAny_passesOwn hp (thn (T.item X rfl rfl rfl hc i pins s3 σ3 H3 X.xe I3 (stat fr3) st3 go) fun r s4 ⟨u, hr, h4⟩ => ?_)
    subst hr
    refine wpAny_passesOwn hp (thn h4 fun _ s5 ⟨x, H5, I5, r5, y5, st5, fr5⟩ => ?_)
    have I5' := I5.pinned (stat fr5) (T.obj _ _ st5)
    refine wpAny_passesOwn hp (thn (hg _ s5 σ3 H5 x u _ I5' r5 (step x H5 y5)) fun _ s6 ⟨σ6, H6, I6, q6⟩ => ?_)
    refine wpAny_passesOwn hp (thn (hb _ s6 σ6 H6 _ I6 q6) fun f s7 q7 => ?_)
    have again : ∀ {σ7 : St} {H7 : Hp}, Inv X (pins ++ pinsAt fp s5.heap) σ7 H7 s7 → N σ7 H7 → ∃ m, m < n ∧ ∃ i σ' H', Inv X pins σ' H' s7 ∧ tn i s7.heap ∧ (∀ b ∈ fp, H' b = none) ∧ W i m σ' H' := fun {σ7 H7} I7 n7 => by
      obtain ⟨m', hm, w7⟩ := hN σ7 H7 n7
      refine ⟨m', hm, i + 1, σ7, H7, I7.unpinned, T.keep _ _ _ st5 fun b hb o e => (I7.pin (b, o) (List.mem_append_right _ (List.mem_append_right _ (mem_pinsAt hb e)))).1, fun b hb => ?_, w7⟩
      obtain ⟨o, e, d⟩ := T.obj _ _ st5 b hb
      exact (I7.pin (b, o) (List.mem_append_right _ (List.mem_append_right _ (mem_pinsAt hb e)))).2.1
    cases f with
    | next => obtain ⟨σ7, H7, I7, n7⟩ := q7; exact again I7 n7
    | cont => obtain ⟨σ7, H7, I7, n7⟩ := q7; exact again I7 n7
    | brk => obtain ⟨σ7, H7, I7, q7⟩ := q7; exact ⟨σ7, H7, I7.unpinned, q7⟩
    | ret v => obtain ⟨x7, σ7, H7, I7, r7, q7⟩ := q7; exact ⟨x7, σ7, H7, I7.unpinned, r7, q7⟩
end
theorem for_list {K : PySem.W.Frag} {a : Addr} {xs : List V} {g : TG} {tb : TS} {D : Ends} {σ : St} {H : Hp} (Pv : Nat → St → Hp → Prop) (h0 : Pv 0 σ H) (hl : ∀ i σ H, i ≤ xs.length → Pv i σ H → SqL K H a xs)
    (hs : ∀ i x σ H, xs[i]? = some x → Pv i σ H → g x σ H fun σ2 H2 => tb { D with nx := Pv (i + 1), ct := Pv (i + 1), bk := D.nx } σ2 H2) (hd : ∀ σ H, Pv xs.length σ H → D.nx σ H) :
    ∃ W : Nat → Nat → St → Hp → Prop, (∃ m, W 0 m σ H) ∧ ∀ i m σ H, W i m σ H →
      ((Itl K a).stop i H ∧ D.nx σ H) ∨ ((Itl K a).go i H ∧ ∃ N : St → Hp → Prop, (∀ σ' H', N σ' H' → ∃ m', m' < m ∧ W (i + 1) m' σ' H') ∧ ∀ x H', (Itl K a).yld i H x H' → g x σ H' fun σ2 H2 => tb { D with nx := N, ct := N, bk := D.nx } σ2 H2) := by
  refine ⟨fun i m σ H => m = xs.length - i ∧ i ≤ xs.length ∧ Pv i σ H, ⟨xs.length, by simp, Nat.zero_le _, h0⟩, ?_⟩
  rintro i m σ H ⟨rfl, hi, p⟩
  have q := hl i σ H hi p
  by_cases hlt : i < xs.length
  · refine .inr ⟨⟨xs, xs[i], q, by simp [hlt]⟩, Pv (i + 1), fun σ' H' p' => ⟨xs.length - (i + 1), by omega, rfl, hlt, p'⟩, fun x H' y => ?_⟩
    obtain ⟨e, y⟩ := y
    subst e
    exact hs i x σ _ (y xs q) p
  · have e : i = xs.length := by omega
    subst e
    exact .inl ⟨⟨xs, q, Nat.le_refl _⟩, hd σ H p⟩
theorem for_tup {K : PySem.W.Frag} {a : Addr} {xs : List V} {g : TG} {tb : TS} {D : Ends} {σ : St} {H : Hp} (Pv : Nat → St → Hp → Prop) (h0 : Pv 0 σ H) (hl : ∀ i σ H, i ≤ xs.length → Pv i σ H → SqT K H a xs)
    (hs : ∀ i x σ H, xs[i]? = some x → Pv i σ H → g x σ H fun σ2 H2 => tb { D with nx := Pv (i + 1), ct := Pv (i + 1), bk := D.nx } σ2 H2) (hd : ∀ σ H, Pv xs.length σ H → D.nx σ H) :
    ∃ W : Nat → Nat → St → Hp → Prop, (∃ m, W 0 m σ H) ∧ ∀ i m σ H, W i m σ H →
      ((Itt K a).stop i H ∧ D.nx σ H) ∨ ((Itt K a).go i H ∧ ∃ N : St → Hp → Prop, (∀ σ' H', N σ' H' → ∃ m', m' < m ∧ W (i + 1) m' σ' H') ∧ ∀ x H', (Itt K a).yld i H x H' → g x σ H' fun σ2 H2 => tb { D with nx := N, ct := N, bk := D.nx } σ2 H2) := by
  refine ⟨fun i m σ H => m = xs.length - i ∧ i ≤ xs.length ∧ Pv i σ H, ⟨xs.length, by simp, Nat.zero_le _, h0⟩, ?_⟩
  rintro i m σ H ⟨rfl, hi, p⟩
  have q := hl i σ H hi p
  by_cases hlt : i < xs.length
  · refine .inr ⟨⟨xs, xs[i], q, by simp [hlt]⟩, Pv (i + 1), fun σ' H' p' => ⟨xs.length - (i + 1), by omega, rfl, hlt, p'⟩, fun x H' y => ?_⟩
    obtain ⟨e, y⟩ := y
    subst e
    exact hs i x σ _ (y xs q) p
  · have e : i = xs.length := by omega
    subst e
    exact .inl ⟨⟨xs, q, Nat.le_refl _⟩, hd σ H p⟩
theorem for_range {lo : Int} {n : Nat} {g : TG} {tb : TS} {D : Ends} {σ : St} {H : Hp} (Pv : Nat → St → Hp → Prop) (h0 : Pv 0 σ H)
    (hs : ∀ i σ H, i < n → Pv i σ H → g (.int (lo + i)) σ H fun σ2 H2 => tb { D with nx := Pv (i + 1), ct := Pv (i + 1), bk := D.nx } σ2 H2) (hd : ∀ σ H, Pv n σ H → D.nx σ H) :
    ∃ W : Nat → Nat → St → Hp → Prop, (∃ m, W 0 m σ H) ∧ ∀ i m σ H, W i m σ H →
      ((Itr lo n).stop i H ∧ D.nx σ H) ∨ ((Itr lo n).go i H ∧ ∃ N : St → Hp → Prop, (∀ σ' H', N σ' H' → ∃ m', m' < m ∧ W (i + 1) m' σ' H') ∧ ∀ x H', (Itr lo n).yld i H x H' → g x σ H' fun σ2 H2 => tb { D with nx := N, ct := N, bk := D.nx } σ2 H2) := by
  refine ⟨fun i m σ H => m = n - i ∧ i ≤ n ∧ Pv i σ H, ⟨n, by simp, Nat.zero_le _, h0⟩, ?_⟩
  rintro i m σ H ⟨rfl, hi, p⟩
  by_cases hlt : i < n
  · refine .inr ⟨hlt, Pv (i + 1), fun σ' H' p' => ⟨n - (i + 1), by omega, rfl, hlt, p'⟩, fun x H' y => ?_⟩
    obtain ⟨e, y⟩ := y
    subst e y
    exact hs i σ _ hlt p
  · have e : i = n := by omega
    subst e
    exact .inl ⟨Nat.le_refl _, hd σ H p⟩
theorem while_by {c : TT} {tb : TS} {D : Ends} {σ : St} {H : Hp} (Pv : St → Hp → Prop) (μ : St → Hp → Nat) (h0 : Pv σ H)
    (hs : ∀ σ H, Pv σ H → c σ H fun b H1 => if b = true then tb { D with nx := fun σ' H' => Pv σ' H' ∧ μ σ' H' < μ σ H, ct := fun σ' H' => Pv σ' H' ∧ μ σ' H' < μ σ H, bk := D.nx } σ H1 else D.nx σ H1)
    (mono : ∀ σ H Q Q', (∀ b H1, Q b H1 → Q' b H1) → c σ H Q → c σ H Q') : tWhile c tb D σ H := by
  refine ⟨fun m σ H => m = μ σ H ∧ Pv σ H, ⟨_, rfl, h0⟩, ?_⟩
  rintro m σ H ⟨rfl, p⟩
  refine mono σ H _ _ (fun b H1 q => ?_) (hs σ H p)
  cases b with
  | true => exact ⟨_, fun σ' H' ⟨p', l⟩ => ⟨_, l, rfl, p'⟩, q⟩
  | false => exact q
end L2
namespace L2
open PySem PySem.Spec PyProof.Rows
abbrev R2 := V → V → Hp → VK → Prop
def OpR (X : Cx) (f : Value → Value → Sem Value) (r : R2) : Prop :=
  ∀ (pins : List (Addr × Obj)) (s : Shared) (σ : St) (H : Hp) (x y : V) (v u : Value) (Q : VK), Inv X pins σ H s → RelV x v → RelV y u → r x y H Q →
    wpAny (model X.prog X.w) X.A (f v u) (EP X pins σ Q) X.xe s
def UnR (X : Cx) (f : Value → Sem Value) (r : V → Hp → VK → Prop) : Prop :=
  ∀ (pins : List (Addr × Obj)) (s : Shared) (σ : St) (H : Hp) (x : V) (v : Value) (Q : VK), Inv X pins σ H s → RelV x v → r x H Q →
    wpAny (model X.prog X.w) X.A (f v) (EP X pins σ Q) X.xe s
def CallR (X : Cx) (f : Value) (r : List V → Hp → VK → Prop) : Prop :=
  ∀ (pins : List (Addr × Obj)) (s : Shared) (σ : St) (H : Hp) (xs : List V) (us : List Value) (Q : VK), Inv X pins σ H s → Vals xs us → r xs H Q →
    wpAny (model X.prog X.w) X.A (call f us) (EP X pins σ Q) X.xe s
def TruR (X : Cx) (r : V → Hp → (Bool → Hp → Prop) → Prop) : Prop :=
  ∀ (pins : List (Addr × Obj)) (s : Shared) (σ : St) (H : Hp) (x : V) (v : Value) (Q : Bool → Hp → Prop), Inv X pins σ H s → RelV x v → r x H Q →
    wpAny (model X.prog X.w) X.A (truthy v) (TP X pins σ Q) X.xe s
def tOp (r : R2) (ta tb : TE) : TE := fun σ H Q => ta σ H fun x H1 => tb σ H1 fun y H2 => r x y H2 Q
def tUn (r : V → Hp → VK → Prop) (ta : TE) : TE := fun σ H Q => ta σ H fun x H1 => r x H1 Q
def rI (C : Int → Int → Prop) (g : Int → Int → V) : R2 := fun x y H Q => ∃ i j, x = .int i ∧ y = .int j ∧ C i j ∧ Q (g i j) H
def rI0 (g : Int → Int → V) : R2 := fun x y H Q => ∃ i j, x = .int i ∧ y = .int j ∧ Q (g i j) H
def rU (g : Int → V) : V → Hp → VK → Prop := fun x H Q => ∃ i, x = .int i ∧ Q (g i) H
section
variable {X : Cx} {a b c : Expr} {ta tb tc : TE} {pos : Pos}
theorem binT (ha : PE X a ta) (hb : PE X b tb) {pins : List (Addr × Obj)} {s : Shared} {σ : St} {H : Hp} {R : V → V → Hp → Prop} (I : Inv X pins σ H s)
    (h : ta σ H fun x H1 => tb σ H1 fun y H2 => R x y H2) {Q : Value → Shared → Prop} {f : Value → Value → Sem Value}
    (hf : ∀ v u s2 x y H2, Inv X pins σ H2 s2 → RelV x v → RelV y u → R x y H2 → wpAny (model X.prog X.w) X.A (f v u) Q X.xe s2) :
    wpAny (model X.prog X.w) X.A (eval a X.env) (fun v s₁ => wpAny (model X.prog X.w) X.A (eval b X.env) (fun u s₂ => wpAny (model X.prog X.w) X.A (f v u) Q X.xe s₂) X.xe s₁) X.xe s := by
  refine thn (ha pins s σ H _ I h) fun v s1 ⟨x, H1, I1, r1, q1⟩ => ?_
  refine thn (hb pins s1 σ H1 _ I1 q1) fun u s2 ⟨y, H2, I2, r2, q2⟩ => ?_
  exact hf v u s2 x y H2 I2 r1 r2 q2
theorem pe_op {op : Operator} {r : R2} (ho : OpR X (binaryOp op) r) (ha : PE X a ta) (hb : PE X b tb) : PE X (.BinOp a op b pos) (tOp r ta tb) := by
  intro pins s σ H Q I h
  exact wpAny_BinOp (binT ha hb I h fun v u s2 x y H2 I2 rx ry q => ho pins s2 σ H2 x y v u Q I2 rx ry q)
theorem pe_un {op : UnaryOp} {r : V → Hp → VK → Prop} (ho : UnR X (unaryOp op) r) (ha : PE X a ta) : PE X (.UnaryOp op a pos) (tUn r ta) := by
  intro pins s σ H Q I h
  exact UnaryOp_ (thn (ha pins s σ H _ I h) fun v s1 ⟨x, H1, I1, r1, q1⟩ => ho pins s1 σ H1 x v Q I1 r1 q1)
theorem opI {f : Value → Value → Sem Value} {C : Int → Int → Prop} {g : Int → Int → Int}
    (rule : ∀ (i j : Int) (t u : Tok) (s : Shared) (Q : Value → Shared → Prop) (E : Value → Shared → Prop), C i j → Q (.int (g i j) s.toks) { s with toks := s.toks + 1 } → wpAny (model X.prog X.w) X.A (f (.int i t) (.int j u)) Q E s) :
    OpR X f (rI C fun i j => .int (g i j)) := by
  intro pins s σ H x y v u Q I rx ry h
  obtain ⟨i, j, rfl, rfl, hc, q⟩ := h
  obtain ⟨t, rfl⟩ := rx
  obtain ⟨t', rfl⟩ := ry
  exact rule i j t t' s _ _ hc ⟨.int (g i j), H, I.tok _, ⟨_, rfl⟩, q⟩
theorem opI0 {f : Value → Value → Sem Value} {g : Int → Int → Int}
    (rule : ∀ (i j : Int) (t u : Tok) (s : Shared) (Q : Value → Shared → Prop) (E : Value → Shared → Prop), Q (.int (g i j) s.toks) { s with toks := s.toks + 1 } → wpAny (model X.prog X.w) X.A (f (.int i t) (.int j u)) Q E s) :
    OpR X f (rI0 fun i j => .int (g i j)) := by
  intro pins s σ H x y v u Q I rx ry h
  obtain ⟨i, j, rfl, rfl, q⟩ := h
  obtain ⟨t, rfl⟩ := rx
  obtain ⟨t', rfl⟩ := ry
  exact rule i j t t' s _ _ ⟨.int (g i j), H, I.tok _, ⟨_, rfl⟩, q⟩
theorem opB0 {f : Value → Value → Sem Value} {g : Int → Int → Bool}
    (rule : ∀ (i j : Int) (t u : Tok) (s : Shared) (Q : Value → Shared → Prop) (E : Value → Shared → Prop), Q (.bool (g i j)) s → wpAny (model X.prog X.w) X.A (f (.int i t) (.int j u)) Q E s) :
    OpR X f (rI0 fun i j => .bl (g i j)) := by
  intro pins s σ H x y v u Q I rx ry h
  obtain ⟨i, j, rfl, rfl, q⟩ := h
  obtain ⟨t, rfl⟩ := rx
  obtain ⟨t', rfl⟩ := ry
  exact rule i j t t' s _ _ ⟨.bl (g i j), H, I, rfl, q⟩
def CDiv (i j : Int) : Prop := 0 < j ∧ j < 1073741824
def CPow (i j : Int) : Prop := 0 ≤ j ∧ j ≤ 1000000 ∧ i.natAbs < 2 ^ 64
def CMul (i j : Int) : Prop := (-(2 ^ 64) < i ∧ i < 2 ^ 64) ∨ (-(2 ^ 64) < j ∧ j < 2 ^ 64)
theorem CMul.ok {i j : Int} (h : CMul i j) : IntMulOk i j := by
  rcases h with ⟨h1, h2⟩ | ⟨h1, h2⟩
  · exact .of_left (intBits_le_64 h1 h2)
  · exact .of_right (intBits_le_64 h1 h2)
theorem op_add : OpR X (binaryOp .Add) (rI0 fun i j => .int (i + j)) := opI0 fun _ _ _ _ _ _ _ q => add_int q
theorem op_sub : OpR X (binaryOp .Sub) (rI0 fun i j => .int (i - j)) := opI0 fun _ _ _ _ _ _ _ q => sub_int q
theorem op_mul : OpR X (binaryOp .Mult) (rI CMul fun i j => .int (i * j)) := opI fun _ _ _ _ _ _ _ hc q => mul_int q hc.ok
theorem op_fdiv : OpR X (binaryOp .FloorDiv) (rI CDiv fun i j => .int (i / j)) := opI fun i j _ _ _ _ _ hc q => by
  have h1 : (0 : Int) < j := hc.1
  have h2 : j < 1073741824 := hc.2
  exact floordiv_int (by omega) (by rw [Int.fdiv_eq_ediv_of_nonneg i (by omega)]; exact q) (.inl (PyProof.noPylong_small (by omega)))
theorem op_mod : OpR X (binaryOp .Mod) (rI (fun _ j => 0 < j) fun i j => .int (i % j)) := opI fun i j _ _ _ _ _ hc q => by
  have h1 : (0 : Int) < j := hc
  exact mod_int' (by omega) (by rw [Int.fmod_eq_emod_of_nonneg i (by omega)]; exact q)
theorem op_pow : OpR X (binaryOp .Pow) (rI CPow fun i j => .int (i ^ j.toNat)) := opI fun _ _ _ _ _ _ _ hc q => pow_int_small hc.1 hc.2.1 hc.2.2 q
theorem unI {f : Value → Sem Value} {g : Int → Int}
    (rule : ∀ (i : Int) (t : Tok) (s : Shared) (Q : Value → Shared → Prop) (E : Value → Shared → Prop), Q (.int (g i) s.toks) { s with toks := s.toks + 1 } → wpAny (model X.prog X.w) X.A (f (.int i t)) Q E s) :
    UnR X f (rU fun i => .int (g i)) := by
  intro pins s σ H x v Q I rx h
  obtain ⟨i, rfl, q⟩ := h
  obtain ⟨t, rfl⟩ := rx
  exact rule i t s _ _ ⟨.int (g i), H, I.tok _, ⟨_, rfl⟩, q⟩
theorem un_neg : UnR X (unaryOp .USub) (rU fun i => .int (-i)) := unI fun _ _ _ _ _ q => neg_int q
end
def scal : V → V → Bool
  | .non, .non => true | .non, .int _ => true | .int _, .non => true | .non, .bl _ => true | .bl _, .non => true | .non, .str _ => true | .str _, .non => true
  | .int _, .int _ => true | .bl _, .bl _ => true | .str _, .str _ => true | .byt _, .byt _ => true
  | .int _, .str _ => true | .str _, .int _ => true | .bl _, .str _ => true | .str _, .bl _ => true
  | _, _ => false
def rEq : R2 := fun x y H Q => scal x y = true ∧ Q (.bl (decide (x = y))) H
def rNe : R2 := fun x y H Q => scal x y = true ∧ Q (.bl (!decide (x = y))) H
theorem dec_int {i j : Int} : decide (V.int i = V.int j) = (i == j) := by
  rw [Bool.eq_iff_iff]
  simp
theorem dec_bl {i j : Bool} : decide (V.bl i = V.bl j) = (i == j) := by
  rw [Bool.eq_iff_iff]
  simp
theorem dec_str {i j : Str} : decide (V.str i = V.str j) = (i == j) := by
  rw [Bool.eq_iff_iff]
  simp
theorem dec_byt {i j : Array UInt8} : decide (V.byt i = V.byt j) = (i.toList == j.toList) := by
  rw [Bool.eq_iff_iff]
  cases i
  cases j
  simp
section
variable {X : Cx} {a b c : Expr} {ta tb tc : TE} {pos : Pos}
theorem fin_bl {pins : List (Addr × Obj)} {σ : St} {H : Hp} {s : Shared} {Q : VK} {k k' : Bool} (I : Inv X pins σ H s) (q : Q (.bl k) H) (e : k = k') : EP X pins σ Q (.bool k') s := by
  subst e
  exact ⟨.bl k, H, I, rfl, q⟩
theorem op_eq : OpR X (compareOp .Eq) rEq := by
  intro pins s σ H x y v u Q I rx ry h
  obtain ⟨hs, q⟩ := h
  cases x with
  | non =>
    cases rx
    cases y with
    | non => cases ry; exact PySem.EqNone.eq_none_none (fin_bl I q (by simp))
    | bl j => cases ry; exact PySem.EqNone.eq_none_bool (fin_bl I q (by simp))
    | int j => obtain ⟨t', rfl⟩ := ry; exact PySem.EqNone.eq_none_int (fin_bl I q (by simp))
    | str j => obtain ⟨t', rfl⟩ := ry; exact PySem.EqNone.eq_none_str (fin_bl I q (by simp))
    | _ => exact absurd (show false = true from hs) Bool.false_ne_true
  | bl i =>
    cases rx
    cases y with
    | non => cases ry; exact PySem.EqNone.eq_bool_none (fin_bl I q (by simp))
    | bl j => cases ry; exact eq_bool (fin_bl I q dec_bl)
    | str j => obtain ⟨t', rfl⟩ := ry; exact PySem.EqMixed.eq_bool_str (fin_bl I q (by simp))
    | _ => exact absurd (show false = true from hs) Bool.false_ne_true
  | int i =>
    obtain ⟨t, rfl⟩ := rx
    cases y with
    | non => cases ry; exact PySem.EqNone.eq_int_none (fin_bl I q (by simp))
    | int j => obtain ⟨t', rfl⟩ := ry; exact eq_int (fin_bl I q dec_int)
    | str j => obtain ⟨t', rfl⟩ := ry; exact PySem.EqMixed.eq_int_str (fin_bl I q (by simp))
    | _ => exact absurd (show false = true from hs) Bool.false_ne_true
  | str i =>
    obtain ⟨t, rfl⟩ := rx
    cases y with
    | non => cases ry; exact PySem.EqNone.eq_str_none (fin_bl I q (by simp))
    | bl j => cases ry; exact PySem.EqMixed.eq_str_bool (fin_bl I q (by simp))
    | int j => obtain ⟨t', rfl⟩ := ry; exact PySem.EqMixed.eq_str_int (fin_bl I q (by simp))
    | str j => obtain ⟨t', rfl⟩ := ry; exact eq_str (fin_bl I q dec_str)
    | _ => exact absurd (show false = true from hs) Bool.false_ne_true
  | byt i =>
    obtain ⟨t, rfl⟩ := rx
    cases y with
    | byt j => obtain ⟨t', rfl⟩ := ry; exact PySem.W.eq_bytes (fin_bl I q dec_byt)
    | _ => exact absurd (show false = true from hs) Bool.false_ne_true
  | _ => cases y <;> exact absurd (show false = true from hs) Bool.false_ne_true
theorem op_ne : OpR X (compareOp .NotEq) rNe := by
  intro pins s σ H x y v u Q I rx ry h
  obtain ⟨hs, q⟩ := h
  cases x with
  | non =>
    cases rx
    cases y with
    | non => cases ry; exact PySem.EqNone.ne_none_none (fin_bl I q (by simp))
    | bl j => cases ry; exact PySem.EqNone.ne_none_bool (fin_bl I q (by simp))
    | int j => obtain ⟨t', rfl⟩ := ry; exact PySem.EqNone.ne_none_int (fin_bl I q (by simp))
    | str j => obtain ⟨t', rfl⟩ := ry; exact PySem.EqNone.ne_none_str (fin_bl I q (by simp))
    | _ => exact absurd (show false = true from hs) Bool.false_ne_true
  | bl i =>
    cases rx
    cases y with
    | non => cases ry; exact PySem.EqNone.ne_bool_none (fin_bl I q (by simp))
    | bl j => cases ry; exact ne_bool (fin_bl I q (congrArg not dec_bl))
    | str j => obtain ⟨t', rfl⟩ := ry; exact PySem.EqMixed.ne_bool_str (fin_bl I q (by simp))
    | _ => exact absurd (show false = true from hs) Bool.false_ne_true
  | int i =>
    obtain ⟨t, rfl⟩ := rx
    cases y with
    | non => cases ry; exact PySem.EqNone.ne_int_none (fin_bl I q (by simp))
    | int j => obtain ⟨t', rfl⟩ := ry; exact ne_int (fin_bl I q (congrArg not dec_int))
    | str j => obtain ⟨t', rfl⟩ := ry; exact PySem.EqMixed.ne_int_str (fin_bl I q (by simp))
    | _ => exact absurd (show false = true from hs) Bool.false_ne_true
  | str i =>
    obtain ⟨t, rfl⟩ := rx
    cases y with
    | non => cases ry; exact PySem.EqNone.ne_str_none (fin_bl I q (by simp))
    | bl j => cases ry; exact PySem.EqMixed.ne_str_bool (fin_bl I q (by simp))
    | int j => obtain ⟨t', rfl⟩ := ry; exact PySem.EqMixed.ne_str_int (fin_bl I q (by simp))
    | str j => obtain ⟨t', rfl⟩ := ry; exact ne_str (fin_bl I q (congrArg not dec_str))
    | _ => exact absurd (show false = true from hs) Bool.false_ne_true
  | byt i =>
    obtain ⟨t, rfl⟩ := rx
    cases y with
    | byt j => obtain ⟨t', rfl⟩ := ry; exact PySem.W.ne_bytes (fin_bl I q (congrArg not dec_byt))
    | _ => exact absurd (show false = true from hs) Bool.false_ne_true
  | _ => cases y <;> exact absurd (show false = true from hs) Bool.false_ne_true
theorem op_lt : OpR X (compareOp .Lt) (rI0 fun i j => .bl (decide (i < j))) := opB0 fun _ _ _ _ _ _ _ q => lt_int q
theorem op_gt : OpR X (compareOp .Gt) (rI0 fun i j => .bl (decide (j < i))) := opB0 fun _ _ _ _ _ _ _ q => gt_int q
theorem op_ge : OpR X (compareOp .GtE) (rI0 fun i j => .bl (decide (j ≤ i))) := opB0 fun _ _ _ _ _ _ _ q => ge_int q
theorem op_in_str : OpR X (compareOp .In) (fun x y H Q => ∃ i j, x = .str i ∧ y = .str j ∧ Q (.bl (!(Builtin.Str.occurrences j i 0 j.length 1).isEmpty)) H) := by
  intro pins s σ H x y v u Q I rx ry h
  obtain ⟨i, j, rfl, rfl, q⟩ := h
  obtain ⟨t, rfl⟩ := rx
  obtain ⟨t', rfl⟩ := ry
  exact in_str (fin_bl I q rfl)
theorem op_isN : OpR X (compareOp .Is) (fun x y H Q => y = .non ∧ Q (.bl (decide (x = .non))) H) := by
  intro pins s σ H x y v u Q I rx ry h
  obtain ⟨rfl, q⟩ := h
  cases ry
  refine is_none_gen (fin_bl I q ?_)
  cases x <;> first
    | (cases rx; rfl)
    | (obtain ⟨t, rfl⟩ := rx; rfl)
theorem nomark (b : Expr) {op : CmpOp} (h : op ≠ .In := by decide) (h2 : op ≠ .NotIn := by decide) : behindInMarks op b = false := by
  have e1 : (op == CmpOp.In) = false := by cases op <;> first | rfl | exact absurd rfl h
  have e2 : (op == CmpOp.NotIn) = false := by cases op <;> first | rfl | exact absurd rfl h2
  cases b <;> simp [behindInMarks, e1, e2]
theorem pe_cmpR {op : CmpOp} {r : R2} (ho : OpR X (compareOp op) r) (ha : PE X a ta) (hb : PE X b tb) (hm : behindInMarks op b = false) : PE X (.Compare a [op] [b] pos) (tOp r ta tb) := by
  intro pins s σ H Q I h
  exact wpAny_Compare1 (binT ha hb I h fun v u s2 x y H2 I2 rx ry q => ho pins s2 σ H2 x y v u Q I2 rx ry q) hm
def tTest (t : TE) : TT := fun σ H Q => t σ H fun x H' => ∃ k, x = .bl k ∧ Q k H'
theorem pt_cmpR {op : CmpOp} {r : R2} (ho : OpR X (compareOp op) r) (ha : PE X a ta) (hb : PE X b tb) (hm : behindInMarks op b = false) : PT X (.Compare a [op] [b] pos) (tTest (tOp r ta tb)) := by
  intro pins s σ H Q I h
  refine wpAny_isTrue_Compare1 (thn (ha pins s σ H _ I h) fun v s1 ⟨x, H1, I1, r1, q1⟩ => thn (hb pins s1 σ H1 _ I1 q1) fun u s2 ⟨y, H2, I2, r2, q2⟩ =>
    thn (ho pins s2 σ H2 x y v u _ I2 r1 r2 q2) fun c s3 ⟨z, H3, I3, r3, k, e, q3⟩ => ?_) hm
  subst e
  cases r3
  exact wpAny_truthy_bool ⟨H3, I3, q3⟩
def TruV (K : PySem.W.Frag) (x : V) (H : Hp) (k : Bool) : Prop :=
  match x with
  | .non => k = false
  | .bl b => k = b
  | .int i => k = (i != 0)
  | .str y => y.length ≤ sizeLine ∧ k = ((y.length : Int) != 0)
  | .byt y => y.size ≤ sizeLine ∧ k = ((y.size : Int) != 0)
  | .ref p => (∃ xs, SqL K H p xs ∧ k = !xs.isEmpty) ∨ (∃ xs, SqT K H p xs ∧ k = !xs.isEmpty) ∨ ∃ kvs, H p = some (.dK kvs) ∧ k = !kvs.isEmpty
  | _ => False
theorem isEmpty_kv {κ : Type} {kvs : List (κ × V)} {vs : List (κ × Value)} (r : KV kvs vs) : (!vs.isEmpty) = !kvs.isEmpty := by
  cases r <;> rfl
theorem isEmpty_of {xs : List V} {its : List Value} (r : Vals xs its) : (!its.toArray.isEmpty) = !xs.isEmpty := by
  cases r <;> simp
theorem line63 : (sizeLine : Nat) < 2 ^ 63 := by rw [sizeLine_eq]; decide
theorem tru_ok : TruR X (fun x H Q => ∃ k, TruV X.K x H k ∧ Q k H) := by
  intro pins s σ H x v Q I rx h
  obtain ⟨k, e, q⟩ := h
  have hl := line63
  have hs : sizeLine = 16777216 := sizeLine_eq
  cases x with
  | non =>
    cases rx
    have e' : k = false := e
    subst e'
    exact truthy_none ⟨H, I, q⟩
  | bl b =>
    cases rx
    have e' : k = b := e
    subst e'
    exact wpAny_truthy_bool ⟨H, I, q⟩
  | int i =>
    obtain ⟨t, rfl⟩ := rx
    have e' : k = (i != 0) := e
    subst e'
    exact PySem.P.truthy_int ⟨H, I, q⟩
  | str y =>
    obtain ⟨t, rfl⟩ := rx
    obtain ⟨hy, e'⟩ : y.length ≤ sizeLine ∧ k = ((y.length : Int) != 0) := e
    subst e'
    exact PySem.P.truthy_str (by omega) ⟨H, I.tok _, q⟩
  | byt y =>
    obtain ⟨t, rfl⟩ := rx
    obtain ⟨hy, e'⟩ : y.size ≤ sizeLine ∧ k = ((y.size : Int) != 0) := e
    subst e'
    exact PySem.W.truthy_bytes (by omega) ⟨H, I.tok _, q⟩
  | ref p =>
    cases rx
    have e' : (∃ xs, SqL X.K H p xs ∧ k = !xs.isEmpty) ∨ (∃ xs, SqT X.K H p xs ∧ k = !xs.isEmpty) ∨ ∃ kvs, H p = some (.dK kvs) ∧ k = !kvs.isEmpty := e
    rcases e' with ⟨xs, hx, e'⟩ | ⟨xs, hx, e'⟩ | ⟨kvs, hx, e'⟩
    · subst e'
      obtain ⟨its, r, pl, hz⟩ := I.list hx
      have hlen := r.length
      exact wpAny_truthy_list pl.isList (by simp only [List.size_toArray]; omega) ⟨H, I.tok _, by rw [isEmpty_of r]; exact q⟩
    · subst e'
      obtain ⟨its, r, pl, hz⟩ := I.tuple hx
      have hlen := r.length
      exact truthy_tuple pl (by simp only [List.size_toArray]; omega) ⟨H, I.tok _, by rw [isEmpty_of r]; exact q⟩
    · subst e'
      obtain ⟨hz, hS, vs, r, m⟩ : kvs.length ≤ sizeLine ∧ (p == sysModules) = false ∧ ∃ vs, KV kvs vs ∧ s.heap.DictOf (mixKind X.prog X.w) p vs := I.hok p _ hx
      have hlen : kvs.length = vs.length := Paired.length r
      exact wpAny_truthy_dict hS m (by omega) ⟨H, I.tok _, by rw [isEmpty_kv r]; exact q⟩
  | _ => exact (show False from e).elim
theorem pt_truth (ha : PE X a ta) (he : ∀ whole, isTrue a X.env whole = (do let v ← whole; standAt a.pos; holding [v] (truthy v))) :
    PT X a (fun σ H Q => ta σ H fun x H' => ∃ k, TruV X.K x H' k ∧ Q k H') := by
  intro pins s σ H Q I h
  exact isTrue_plain (thn (ha pins s σ H _ I h) fun v s1 ⟨x, H1, I1, r1, q1⟩ => tru_ok pins s1 σ H1 x v Q I1 r1 q1) (he _)
theorem op_add_str : OpR X (binaryOp .Add) (fun x y H Q => ∃ i j, x = .str i ∧ y = .str j ∧ i.length + j.length ≤ sizeLine ∧ Q (.str (i ++ j)) H) := by
  intro pins s σ H x y v u Q I rx ry h
  obtain ⟨i, j, rfl, rfl, hz, q⟩ := h
  obtain ⟨t, rfl⟩ := rx
  obtain ⟨t', rfl⟩ := ry
  exact add_str (fun t' tk => ⟨.str (i ++ j), H, I.tok _, ⟨_, rfl⟩, q⟩) hz
theorem vals1 {x : V} {us : List Value} (r : Vals [x] us) : ∃ u, us = [u] ∧ RelV x u := by
  cases r with
  | cons r1 r2 => cases r2; exact ⟨_, rfl, r1⟩
theorem vals2 {x y : V} {us : List Value} (r : Vals [x, y] us) : ∃ u w', us = [u, w'] ∧ RelV x u ∧ RelV y w' := by
  cases r with
  | cons r1 r2 =>
    cases r2 with
    | cons r3 r4 => cases r4; exact ⟨_, _, rfl, r1, r3⟩
theorem call_min2 (hc : X.calm = true) : CallR X (.builtin "min") (fun xs H Q => ∃ i j, xs = [.int i, .int j] ∧ Q (.int (if j < i then j else i)) H) := by
  intro pins s σ H xs us Q I r h
  obtain ⟨i, j, rfl, q⟩ := h
  obtain ⟨u, w', rfl, ⟨t, rfl⟩, ⟨t', rfl⟩⟩ := vals2 r
  refine min_two_ints (I.ok.hd hc) fun h' tk k => ⟨_, H, I.kept k, ?_, q⟩
  by_cases hj : j < i
  · rw [if_pos hj, if_pos hj]; exact ⟨_, rfl⟩
  · rw [if_neg hj, if_neg hj]; exact ⟨_, rfl⟩
theorem call_int1 : CallR X (.type "int") (fun xs H Q => (∃ i, xs = [.int i] ∧ Q (.int i) H) ∨ ∃ k, xs = [.bl k] ∧ Q (.int (if k then 1 else 0)) H) := by
  intro pins s σ H xs us Q I r h
  rcases h with ⟨i, rfl, q⟩ | ⟨k, rfl, q⟩
  · obtain ⟨u, rfl, t, rfl⟩ := vals1 r
    exact call_int_int ⟨.int i, H, I, ⟨_, rfl⟩, q⟩
  · obtain ⟨u, rfl, r1⟩ := vals1 r
    cases r1
    exact call_int_bool ⟨.int (if k then 1 else 0), H, I.tok _, ⟨_, rfl⟩, q⟩
end
end L2
namespace L2
open PySem PySem.Spec PyProof.Rows
structure ObjM (h : Heap) (x dx C : Addr) (mA : Str → Option Value) : Prop where
  obj : h.get? x = some (PySem.W.instObj C dx)
  ns : h.Ns1 dx mA
  ne : dx ≠ x
theorem lookIn_ns {h : Heap} {dx : Addr} {mA : Str → Option Value} (n : h.Ns1 dx mA) : ∃ od, h.get? dx = some od ∧ ∀ name, PySem.W.lookIn name od = some (mA name) := by
  obtain ⟨o, es, ep, ho, hd, hk, _, hm⟩ := n
  refine ⟨o, ho, fun name => ?_⟩
  have e := hm name
  unfold nsFind findBy at e
  rw [← Array.find?_toList] at e
  unfold PySem.W.lookIn
  rw [hd]
  dsimp only
  split
  · rename_i y q
    rw [q] at e
    exact congrArg some e
  · rename_i q
    rw [q] at e
    have a : es.toList.any (·.refKey) = false := by
      rw [List.any_eq_false]
      intro y hy
      obtain ⟨z, t, hkey⟩ := hk y (Array.mem_toList_iff.mp hy)
      simp [DictEntry.refKey, hkey]
    have a' : ¬ es.toList.any (·.refKey) = true := by rw [a]; exact Bool.false_ne_true
    rw [if_neg a']
    exact congrArg some e
theorem ObjM.look {h : Heap} {x dx C : Addr} {mA : Str → Option Value} (I : ObjM h x dx C mA) : ∃ od, PySem.W.InstAt h x (PySem.W.instObj C dx) C (some od) ∧ ∀ name, PySem.W.lookIn name od = some (mA name) :=
  let ⟨od, ho, hl⟩ := lookIn_ns I.ns
  ⟨od, ⟨I.obj, rfl, rfl, ho⟩, hl⟩
section
variable {prog : Program} {w : World} {A : Around} {E : Value → Shared → Prop} {s : Shared} {K : PySem.W.Frag} {x dx C f : Addr} {mA : Str → Option Value} {name : Str} {v : Value}
end
theorem RelO.some_of {v : V} {o : Option Value} (r : RelO (some v) o) : ∃ u, o = some u ∧ RelV v u := by
  cases o with
  | none => exact (show False from r).elim
  | some u => exact ⟨u, rfl, r⟩
section
variable {P : Program} {w : World} {H H' : Hp} {h h' : Heap} {a C dx : Addr} {fs fs' : List (Str × V)}
theorem ins_get (hok : HOk P w H h) (e : H a = some (.ins C dx fs)) : ∃ mA, ObjM h a dx C mA ∧ (∀ f, RelO (fs.lookup f) (mA f)) ∧ PySem.Within mA (fs.map (·.1)) ∧ fs.length ≤ 1000 ∧ H dx = some (.own a) := by
  obtain ⟨d, z, ne, ob, mA, n, r, q⟩ := (show ObjOk P w H h a (.ins C dx fs) from hok a _ e)
  exact ⟨mA, ⟨ob, n, ne⟩, r, q, z, d⟩
end
structure Cls (K : PySem.W.Frag) (C : Addr) : Prop where
  pg : PySem.W.plainGet K C Str.empty = true
  hd : PySem.W.hasDictIn K C = true
  po : PySem.W.plainOver K C = true
  sa : PySem.W.findIn K (.ref C) "__setattr__" = some (some (.builtin "object.__setattr__"))
theorem Cls.get {K : PySem.W.Frag} {C : Addr} (c : Cls K C) (f : Str) : PySem.W.plainGet K C f = true := c.pg
section
variable {X : Cx} {pins : List (Addr × Obj)} {σ : St} {H : Hp} {s : Shared} {a C dx : Addr} {fs : List (Str × V)} {f : Str} {v : V} {A : Around} {E : Value → Shared → Prop}
end
section
variable {X : Cx} {o e value : Expr} {f : Str} {pos pos' tpos : Pos} {ta tv : TE}
end
section
variable {X : Cx} {pins : List (Addr × Obj)} {σ : St} {H : Hp} {s : Shared} {A : Around} {E : Value → Shared → Prop} {Q : Value → Shared → Prop} {c : Value} {b : Bool}
inductive TyOf (K : PySem.W.Frag) (H : Hp) : V → Value → Prop where
  | non : TyOf K H .non (.type "NoneType")
  | bl (x : Bool) : TyOf K H (.bl x) (.type "bool")
  | int (i : Int) : TyOf K H (.int i) (.type "int")
  | str (x : Str) : TyOf K H (.str x) (.type "str")
  | flt (x : UInt64) : TyOf K H (.flt x) (.type "float")
  | lst {a : Addr} {xs : List V} (e : H a = some (.lst xs)) : TyOf K H (.ref a) (.type "list")
  | frz {a : Addr} {o : Obj} {xs : List V} (e : H a = some (.frz o (.lst xs))) : TyOf K H (.ref a) (.type "list")
  | tup {a : Addr} {xs : List V} (e : H a = some (.tup xs)) : TyOf K H (.ref a) (.type "tuple")
  | dK {a : Addr} {kvs : List (Key × V)} (e : H a = some (.dK kvs)) : TyOf K H (.ref a) (.type "dict")
  | dT {a : Addr} {kvs : List (List Key × V)} (e : H a = some (.dT kvs)) : TyOf K H (.ref a) (.type "dict")
  | ins {a C dx : Addr} {fs : List (Str × V)} (e : H a = some (.ins C dx fs)) (cl : Cls K C) (ha : PySem.W.findIn K (.ref C) "__class__" = some (some (.builtin "object.__class__")))
      (hn : PySem.W.specialIn K (.builtin "object.__class__") "__get__" = some (some (.builtin "getset_descriptor.__get__"))) (htk : PySem.W.takesIn K (.builtin "object.__class__") = some true)
      (hm : PySem.W.mroIn K C (.type "object") = some true) : TyOf K H (.ref a) (.ref C)
theorem isinst_ok {x : V} {u t : Value} (I : Inv X pins σ H s) (rx : RelV x u) (ty : TyOf X.K H x t) (e : PySem.W.kitOne X.K t c = some b) (h : ∀ tk, Q (.bool b) { s with toks := tk }) :
    wpAny (model X.prog X.w) A (call (.builtin "isinstance") [u, c]) Q E s := by
  cases ty with
  | non => cases (show u = Value.none from rx); exact PySem.W.kia_one PySem.W.kitx_none I.kIn True.intro e (fun z => nomatch z) h
  | bl y => cases (show u = Value.bool y from rx); exact PySem.W.kia_one PySem.W.kitx_bool I.kIn True.intro e (fun z => nomatch z) h
  | int i => obtain ⟨t, q⟩ := (show ∃ t, u = Value.int i t from rx); cases q; exact PySem.W.kia_one PySem.W.kitx_int I.kIn True.intro e (fun z => nomatch z) h
  | str y => obtain ⟨t, q⟩ := (show ∃ t, u = Value.str y t from rx); cases q; exact PySem.W.kia_one PySem.W.kitx_str I.kIn True.intro e (fun z => nomatch z) h
  | flt y => obtain ⟨t, q⟩ := (show ∃ t, u = Value.float y t from rx); cases q; exact PySem.W.kia_one PySem.W.kitx_float I.kIn True.intro e (fun z => nomatch z) h
  | @lst a xs ea =>
    cases (show u = Value.ref a from rx)
    obtain ⟨_, _, n, _, h1⟩ := (show ObjOk X.prog X.w H s.heap a (.lst xs) from I.hok a _ ea)
    exact PySem.W.kia_one PySem.W.kitx_list I.kIn ⟨_, h1, rfl⟩ e (fun z => nomatch z) h
  | @frz a ob xs ea =>
    cases (show u = Value.ref a from rx)
    obtain ⟨_, _, _, n, _, h1⟩ := (show ObjOk X.prog X.w H s.heap a (.frz ob (.lst xs)) from I.hok a _ ea)
    exact PySem.W.kia_one PySem.W.kitx_list I.kIn ⟨_, h1, rfl⟩ e (fun z => nomatch z) h
  | @tup a xs ea =>
    cases (show u = Value.ref a from rx)
    obtain ⟨_, _, _, p⟩ := (show ObjOk X.prog X.w H s.heap a (.tup xs) from I.hok a _ ea)
    obtain ⟨o, h1, h2, _⟩ := p
    exact PySem.W.kia_one PySem.W.kitx_tuple I.kIn ⟨o, h1, h2⟩ e (fun z => nomatch z) h
  | @dK a kvs ea =>
    cases (show u = Value.ref a from rx)
    obtain ⟨_, _, vs, _, p⟩ := (show ObjOk X.prog X.w H s.heap a (.dK kvs) from I.hok a _ ea)
    obtain ⟨o, es, ep, h1, h2, _⟩ := p
    exact PySem.W.kia_one PySem.W.kitx_dict I.kIn ⟨o, h1, h2.1⟩ e (fun z => nomatch z) h
  | @dT a kvs ea =>
    cases (show u = Value.ref a from rx)
    obtain ⟨_, _, xs, _, o, es, ep, h1, h2, _⟩ := (show ObjOk X.prog X.w H s.heap a (.dT kvs) from I.hok a _ ea)
    exact PySem.W.kia_one PySem.W.kitx_dict I.kIn ⟨o, h1, h2.1⟩ e (fun z => nomatch z) h
  | @ins a C dx fs ea cl ha hn htk hm =>
    cases (show u = Value.ref a from rx)
    obtain ⟨mA, O, _⟩ := ins_get I.hok ea
    obtain ⟨od, J, _⟩ := O.look
    exact PySem.W.kia_one (PySem.W.kitx_own (cl.get _) cl.hd ha hn htk hm) I.kIn J e (fun z => nomatch z) h
end
end L2
namespace L2
open PySem PySem.Spec PyProof.Rows
structure Room (k : Nat) (A : Around) : Prop where
  hd : A.handled = none
  dp : A.depth + 3 * k + 5 < recursionLimit
  un : A.units + 16 * k + 200 < cLine
theorem Room.mono {j k : Nat} {A : Around} (r : Room k A) (h : j ≤ k) : Room j A := ⟨r.hd, by have := r.dp; omega, by have := r.un; omega⟩
theorem Room.deeper {k : Nat} {A : Around} (r : Room (k + 1) A) (env : Env) : Room k (A.deeper env) :=
  ⟨r.hd, by have := r.dp; show A.depth + 1 + 3 * k + 5 < _; omega, by have := r.un; show A.units + 3 + 16 * k + 200 < _; omega⟩
theorem Room.in1 {k : Nat} {A : Around} (r : Room (k + 1) A) : Room k A.in1 :=
  ⟨r.hd, by have := r.dp; show A.depth + 3 * k + 5 < _; omega, by have := r.un; show A.units + 1 + 16 * k + 200 < _; omega⟩
theorem Room.depth {k : Nat} {A : Around} (r : Room k A) : A.depth < recursionLimit := by have := r.dp; omega
theorem Room.units0 {k : Nat} {A : Around} (r : Room k A) : A.units < cLine := by have := r.un; omega
def tNil : TA := fun _ H Q => Q [] H
def tCons (ta : TE) (tr : TA) : TA := fun σ H Q => ta σ H fun x H1 => tr σ H1 fun xs H2 => Q (x :: xs) H2
section
variable {X : Cx} {e : Expr} {es : List Expr} {te : TE} {t : TA} {pos : Pos}
theorem pa_nil : PA X [] tNil := fun _ _ _ _ H Q I h => Calls.spliced_nil ⟨[], H, I, .nil, h⟩
theorem pa_cons (ha : PE X e te) (hr : PA X es t) (hs : starEach (e :: es) X.env = (false, eval e X.env) :: starEach es X.env := by rfl) : PA X (e :: es) (tCons te t) := by
  intro pos pins s σ H Q I h
  rw [hs]
  show wpAny _ _ (spliced ((false, eval e X.env) :: backTo pos (starEach es X.env))) _ _ s
  refine Calls.spliced_cons (thn (ha pins s σ H _ I h) fun u s1 ⟨x, H1, I1, r1, q1⟩ => ?_)
  exact thn (hr pos pins s1 σ H1 _ I1 q1) fun us s2 ⟨xs, H2, I2, r2, q2⟩ => ⟨x :: xs, H2, I2, .cons r1 r2, q2⟩
def tTup (t : TA) : TE := fun σ H Q => t σ H fun xs H1 => xs.length ≤ sizeLine ∧ ∀ p, H1 p = none → Q (.ref p) (upd H1 p (.tup xs))
def tLst (t : TA) : TE := fun σ H Q => t σ H fun xs H1 => xs.length ≤ sizeLine ∧ ∀ p, H1 p = none → Q (.ref p) (upd H1 p (.lst xs))
theorem pe_tup {x1} (h : PA X es t) : PE X (.Tuple es x1 pos) (tTup t) := by
  intro pins s σ H Q I hq
  refine wpAny_Tuple_spliced (thn (h pos pins s σ H _ I hq) fun us s1 ⟨xs, H1, I1, r, z, q⟩ => ⟨by rw [← r.length]; exact z, ?_⟩)
  have hf : H1 s1.heap.objs.size = none := I1.hok.fresh (Nat.le_refl _)
  refine ⟨.ref s1.heap.objs.size, upd H1 s1.heap.objs.size (.tup xs), I1.laid (t' := s1.toks) (fun b u e => Heap.get?_push_of_some _ e) (Nat.le_refl _) ?_, rfl, q _ hf⟩
  exact ⟨z, us, r, ⟨_, Heap.get?_push_size _ rfl, rfl, _, rfl⟩⟩
theorem pe_lst (h : PA X es t) : PE X (.List es pos) (tLst t) := by
  intro pins s σ H Q I hq
  refine wpAny_List_spliced (thn (h pos pins s σ H _ I hq) fun us s1 ⟨xs, H1, I1, r, z, q⟩ => ⟨by rw [← r.length]; exact z, ?_⟩)
  have hf : H1 s1.heap.objs.size = none := I1.hok.fresh (Nat.le_refl _)
  refine ⟨.ref s1.heap.objs.size, upd H1 s1.heap.objs.size (.lst xs), I1.laid (t' := s1.toks) (fun b u e => Heap.get?_push_of_some _ e) (Nat.le_refl _) ?_, rfl, q _ hf⟩
  exact ⟨z, us, 0, r, Heap.get?_push_size _ rfl⟩
end
abbrev Sp := List V → Hp → VK → XK → Prop
abbrev CXT := List Env → Hp → Shared → XK → Value → Shared → Prop
structure Env0 (P : Program) (w : World) (K : PySem.W.Frag) (mg : Str → Option Value) (base : Heap) (A : Around) (outer : List Env) (s : Shared) (H : Hp) : Prop where
  frames : A.frames = some outer
  mod : Mod K mg base
  bs : ∀ b o, base.get? b = some o → s.heap.get? b = some o ∧ H b = none
  bsz : base.objs.size ≤ s.heap.objs.size
  funs : s.heap.FunFrames base outer
  frf : ∀ b ∈ frs outer, H b = none
  hok : HOk P w H s.heap
  bare : AllBare s.gens
def CE (outer : List Env) (P : Program) (w : World) (H : Hp) (s : Shared) (Q : VK) (u : Value) (s' : Shared) : Prop :=
  ∃ v H', s'.os = s.os ∧ AllBare s'.gens ∧ Un (frs outer) [] H H' s.heap s'.heap ∧ HOk P w H' s'.heap ∧ RelV v u ∧ Q v H'
def CR (CX : CXT) (outer : List Env) (P : Program) (w : World) (H : Hp) (s : Shared) (Q : VK) (E : XK) (r : Result) (s' : Shared) : Prop :=
  match r with
  | .ok (.ret u) => CE outer P w H s Q u s'
  | .ok _ => False
  | .error e => CX outer H s E e s'
structure FnOk (P : Program) (w : World) (K : PySem.W.Frag) (mg : Str → Option Value) (base : Heap) (CX : CXT) (k : Nat) (f : Addr) (fd : FuncData) (ps : List Str) (sp : Sp) : Prop where
  len : ∀ vs H Q E, sp vs H Q E → vs.length = ps.length
  run : ∀ (A : Around) (outer : List Env) (s : Shared) (H : Hp) (args : Args) (us : List Value) (vs : List V) (Q : VK) (E : XK), Room k A → Env0 P w K mg base A outer s H → BindsTo s fd args (ps.zip us) → Vals vs us → sp vs H Q E →
    codeAny (model P w) A (.call (.ref f) args) (CR CX outer P w H s Q E) s
theorem FnOk.mono {P : Program} {w : World} {K : PySem.W.Frag} {mg : Str → Option Value} {base : Heap} {CX : CXT} {j k : Nat} {f : Addr} {fd : FuncData} {ps : List Str} {sp : Sp} (F : FnOk P w K mg base CX j f fd ps sp) (h : j ≤ k) :
    FnOk P w K mg base CX k f fd ps sp := ⟨F.len, fun A outer s H args us vs Q E hr => F.run A outer s H args us vs Q E (hr.mono h)⟩
section
variable {X : Cx} {pins : List (Addr × Obj)} {σ : St} {H : Hp} {s s' : Shared}
theorem Inv.env0 (I : Inv X pins σ H s) : Env0 X.prog X.w X.K X.mg X.base X.A X.stack s H :=
  ⟨I.ok.frames, I.ok.mod, I.bs, Nat.le_trans I.ok.bsz I.sz, I.stack, I.stkFree, I.hok, I.bare⟩
theorem Inv.after {Q : VK} {u : Value} (I : Inv X pins σ H s) (h : CE X.stack X.prog X.w H s Q u s') : EP X pins σ Q u s' := by
  obtain ⟨v, H', os, bare, un, hok, r, q⟩ := h
  obtain ⟨hh, g, d, t, os'⟩ := s'
  obtain rfl : os' = s.os := os
  exact ⟨v, H', I.call (h' := hh) (g' := g) (d' := d) (t' := t) (ch := []) un hok bare (fun b z => absurd z (by simp)), r, q⟩
end
def tCall (sp : Sp) (dvs : List V) (E : XK) (t : TA) : TE := fun σ H Q => t σ H fun vs H1 => sp (vs ++ dvs) H1 Q E
def Binds (K : PySem.W.Frag) (fd : FuncData) (ps : List Str) (ds : List Value) : Prop :=
  ∀ (s : Shared) (us : List Value), K.In s.heap → (us ++ ds).length = ps.length → BindsTo s fd ⟨us, []⟩ (ps.zip (us ++ ds))
theorem Binds.all {K : PySem.W.Frag} {fd : FuncData} {ps : List Str} (h : ∀ us : List Value, us.length = ps.length → bindArgs fd ⟨us, []⟩ = pure (ps.zip us)) : Binds K fd ps [] := fun s us _ hl => by
  rw [List.append_nil] at hl ⊢
  exact .of_eq (h us hl)
def Passes (CX : CXT) (X : Cx) (E : XK) : Prop := ∀ (pins : List (Addr × Obj)) (σ : St) (H : Hp) (s : Shared) (e : Value) (s' : Shared), Inv X pins σ H s → CX X.stack H s E e s' → X.xe e s'
section
variable {X : Cx} {CX : CXT} {k : Nat} {f C : Addr} {fd : FuncData} {ps : List Str} {sp : Sp} {dvs : List V} {ds : List Value} {E : XK} {x m : Str} {p pos apos : Pos} {e o : Expr} {es : List Expr} {ta : TE} {t : TA}
theorem run_fn {pins : List (Addr × Obj)} {σ : St} {H : Hp} {s : Shared} {Q : VK} {us : List Value} {vs : List V} (F : FnOk X.prog X.w X.K X.mg X.base CX k f fd ps sp) (hr : Room k X.A) (hb : Binds X.K fd ps ds) (hd : Vals dvs ds) (hx : Passes CX X E)
    (I : Inv X pins σ H s) (r : Vals vs us) (h : sp (vs ++ dvs) H Q E) : wpAny (model X.prog X.w) X.A (call (.ref f) us) (EP X pins σ Q) X.xe s := by
  have r2 : Vals (vs ++ dvs) (us ++ ds) := r.append hd
  have hl : (us ++ ds).length = ps.length := by rw [← r2.length]; exact F.len _ _ _ _ h
  refine wpAny_call (codeAny_mono (F.run X.A X.stack s H ⟨us, []⟩ (us ++ ds) (vs ++ dvs) Q E hr I.env0 (hb s us I.kIn hl) r2 h) fun r s' hq => ?_)
  cases r with
  | error e => exact hx pins σ H s e s' I hq
  | ok fl =>
    cases fl with
    | ret u => exact I.after hq
    | next => exact False.elim hq
    | brk => exact False.elim hq
    | cont => exact False.elim hq
theorem pe_call (F : FnOk X.prog X.w X.K X.mg X.base CX k f fd ps sp) (hr : Room k X.A) (hg : Gl X x) (hm : X.mg x = some (.ref f)) (hk : PySem.W.keepIn X.K (.ref f) = true) (hb : Binds X.K fd ps ds) (hd : Vals dvs ds) (hx : Passes CX X E)
    (ha : PA X (e :: es) t) (hdb : (x == ("__debug__" : Str)) = false := by decide) (he : starEach (e :: es) X.env = (false, eval e X.env) :: starEach es X.env := by rfl) (hpl : (backTo pos (starEach es X.env)).any (·.1) = false := by rfl) :
    PE X (.Call (.Name x p) (e :: es) [] pos) (tCall sp dvs E t) := by
  intro pins s σ H Q I h
  refine wpAny_Call_Name_kw (ld_glob I hg hm ?_ hdb)
  refine PySem.W.callWith_K (h₀ := X.base) I.ok.mod.kin hk (thn (ha pos pins s σ H _ I h) fun us s1 ⟨vs, H1, I1, r, q⟩ => ⟨I1.kIn, ?_⟩) he hpl
  exact run_fn F hr hb hd hx I1 r q
end
section
variable {X : Cx} {CX : CXT} {k : Nat} {f C : Addr} {fd : FuncData} {ps ks : List Str} {sp : Sp} {E : XK} {x m : Str} {p pos apos kpos : Pos} {e o : Expr} {es : List Expr} {kws : List Keyword} {te ta : TE} {t tk : TA} {nm : Option Str}
variable {g : List Value → List Value → List Value} {gV : List V → List V → List V}
end
structure FnScope (N P : List Str) (sc : Scope) : Prop where
  kind : sc.kind = .function
  co : sc.isCoroutine = false
  gen : sc.isGenerator = false
  nd : N.Nodup
  pre : N.take P.length = P
  par : ∀ x ∈ P, sc.names.lookup x = some .local ∨ sc.names.lookup x = some .cell
  nofree : ∀ y ∈ sc.names, y.2 ≠ .free
theorem bindL_out {kindOf : Str → Option NameKind} {x : Str} : ∀ {binds : List (Str × Value)} {m : Str → Option Value}, (∀ v, (x, v) ∉ binds) → bindL kindOf binds m x = m x
  | [], _, _ => rfl
  | (n, v) :: r, m, h => by
    unfold bindL
    rw [bindL_out fun w hw => h w (List.mem_cons_of_mem _ hw)]
    split
    · have : x ≠ n := by rintro rfl; exact h v List.mem_cons_self
      simp [this]
    · rfl
theorem bindC_out {kindOf : Str → Option NameKind} {x : Str} : ∀ {binds : List (Str × Value)} {m : Str → Option Value}, (∀ v, (x, v) ∉ binds) → bindC kindOf binds m x = m x
  | [], _, _ => rfl
  | (n, v) :: r, m, h => by
    unfold bindC
    rw [bindC_out fun w hw => h w (List.mem_cons_of_mem _ hw)]
    split
    · rfl
    · have : x ≠ n := by rintro rfl; exact h v List.mem_cons_self
      simp [this]
theorem bindL_get {kindOf : Str → Option NameKind} {x : Str} {v : Value} : ∀ {P : List Str} {vs : List Value} {i : Nat} {m : Str → Option Value}, P.Nodup → P[i]? = some x → vs[i]? = some v → kindOf x = some .local →
    bindL kindOf (P.zip vs) m x = some v
  | [], _, _, _, _, h, _, _ => by simp at h
  | _ :: _, [], _, _, _, _, h, _ => by simp at h
  | p :: P, w :: vs, 0, m, nd, h1, h2, hk => by
    simp at h1 h2; subst h1; subst h2
    show bindL kindOf ((p, w) :: P.zip vs) m p = _
    unfold bindL
    rw [bindL_out fun v hv => (List.nodup_cons.mp nd).1 (List.of_mem_zip hv).1, if_pos hk]
    simp
  | p :: P, w :: vs, i + 1, m, nd, h1, h2, hk => by
    show bindL kindOf ((p, w) :: P.zip vs) m x = _
    unfold bindL
    exact bindL_get (i := i) (List.nodup_cons.mp nd).2 (by simpa using h1) (by simpa using h2) hk
theorem bindC_get {kindOf : Str → Option NameKind} {x : Str} {v : Value} : ∀ {P : List Str} {vs : List Value} {i : Nat} {m : Str → Option Value}, P.Nodup → P[i]? = some x → vs[i]? = some v → kindOf x ≠ some .local →
    bindC kindOf (P.zip vs) m x = some v
  | [], _, _, _, _, h, _, _ => by simp at h
  | _ :: _, [], _, _, _, _, h, _ => by simp at h
  | p :: P, w :: vs, 0, m, nd, h1, h2, hk => by
    simp at h1 h2; subst h1; subst h2
    show bindC kindOf ((p, w) :: P.zip vs) m p = _
    unfold bindC
    rw [bindC_out fun v hv => (List.nodup_cons.mp nd).1 (List.of_mem_zip hv).1, if_neg hk]
    simp
  | p :: P, w :: vs, i + 1, m, nd, h1, h2, hk => by
    show bindC kindOf ((p, w) :: P.zip vs) m x = _
    unfold bindC
    exact bindC_get (i := i) (List.nodup_cons.mp nd).2 (by simpa using h1) (by simpa using h2) hk
def start (N : List Str) (vs : List V) : St := vs.map some ++ List.replicate (N.length - vs.length) none
def cxOf (CX : CXT) (P : Program) (w : World) (K : PySem.W.Frag) (mg : Str → Option Value) (base : Heap) (N : List Str) (qual : Str) (scope : Scope) (f : Addr) (cd : Value) (A : Around) (outer : List Env) (s : Shared) (H : Hp) (E : XK) : Cx where
  prog := P
  w := w
  K := K
  mg := mg
  base := base
  A := A.deeper (envOfC qual scope s.heap.objs.size f cd)
  N := N
  s₀ := s
  H₀ := H
  env := envOfC qual scope s.heap.objs.size f cd
  outer := outer
  stack := envOfC qual scope s.heap.objs.size f cd :: outer
  ex := []
  calm := true
  fn := fun _ => true
  pn := []
  xe := fun e s' => wpAny (model P w) (A.deeper (envOfC qual scope s.heap.objs.size f cd)) (leaving (envOfC qual scope s.heap.objs.size f cd) e) (fun _ s'' => CX outer H s E e s'') (fun e' s'' => CX outer H s E e' s'') s'
theorem cell_has {sc : Scope} {n : Nat} {x : Str} (h : sc.names.lookup x = some .cell) : ∃ c, (cellsFrom n sc.names []).lookup x = some c := by
  have q := PySem.W.cellsFrom_some sc.names n [] (.inl h)
  exact Option.isSome_iff_exists.mp q
theorem inv_start {CX : CXT} {P : Program} {w : World} {K : PySem.W.Frag} {mg : Str → Option Value} {base : Heap} {N ps : List Str} {qual : Str} {scope : Scope} {f : Addr} {cd : Value} {A : Around} {outer : List Env} {s s1 : Shared} {H : Hp} {E : XK} {us : List Value} {vs : List V}
    (S : FnScope N ps scope) (hd : A.handled = none) (e0 : Env0 P w K mg base A outer s H) (hl : vs.length = ps.length) (r : Vals vs us)
    (x : InCallC s s.heap.objs.size (bindL (envOfC qual scope s.heap.objs.size f cd).kindOf (ps.zip us) fun _ => none) (cellsFrom (s.heap.objs.size + 1) scope.names []) (bindC (envOfC qual scope s.heap.objs.size f cd).kindOf (ps.zip us) fun _ => none) s1) :
    Inv (cxOf CX P w K mg base N qual scope f cd A outer s H E) [] (start N vs) H s1 := by
  have hpl : ps.length ≤ N.length := by have := congrArg List.length S.pre; rw [List.length_take] at this; omega
  obtain ⟨h1, tk, rfl, hk⟩ := x.done
  have noA : ∀ b : Addr, b ∉ (cxOf CX P w K mg base N qual scope f cd A outer s H E).ex := fun b z => absurd (show b ∈ ([] : List Addr) from z) (by simp)
  refine ⟨⟨e0.mod, S.kind, rfl, rfl, Nat.le_refl _, fun y z c h1 h2 => ?_, fun y hy => ?_, fun y c _ h => ?_, fun _ => hd, Around.frames_deeper e0.frames, .inr ⟨rfl, rfl⟩, fun b z => absurd z (noA b), e0.bs, e0.bsz, fun b _ _ => noA b, fun b z => absurd z (noA b), e0.funs, e0.frf⟩,
    rfl, e0.bare, Un.kept hk, ⟨_, x.toInCall.ns, fun i y v h1 h2 h3 => ?_⟩, fun y c h => ⟨_, x.cell y c h⟩, e0.hok.fresh (Nat.le_refl _), fun y c h => ?_, fun p hp => absurd (show p ∈ ([] : List (Addr × Obj)) from hp) (by simp), e0.hok.kept hk, ?_⟩
  · exact name_of_addr x.apart (PySem.mem_of_lookup h1) (PySem.mem_of_lookup h2)
  · have hy : scope.names.lookup y = some .cell ∨ scope.names.lookup y = some .free := hy
    rcases hy with hy | hy
    · exact cell_has hy
    · exact absurd rfl (S.nofree _ (PySem.mem_of_lookup hy))
  · exact Nat.le_of_lt (x.above y c (PySem.mem_of_lookup h))
  · have hi : i < vs.length := by
      unfold start at h2
      by_cases hi : i < vs.length
      · exact hi
      · rw [List.getElem?_append_right (by simpa using hi)] at h2
        rw [List.getElem?_replicate] at h2
        split at h2 <;> cases h2
    have ha : vs[i]? = some v := by
      unfold start at h2
      rw [List.getElem?_append_left (by simpa using hi), List.getElem?_map] at h2
      cases e : vs[i]? with
      | none => rw [e] at h2; cases h2
      | some a => rw [e] at h2; cases h2; rfl
    obtain ⟨u, hu, rv⟩ := r.get ha
    have hp : ps[i]? = some y := by
      rw [← S.pre, List.getElem?_take_of_lt (by omega)]; exact h1
    have ndP : ps.Nodup := by rw [← S.pre]; exact S.nd.sublist (List.take_sublist _ _)
    refine ⟨u, rv, ?_⟩
    rcases S.par y (List.mem_of_getElem? hp) with k | k
    · exact .inl ⟨k, bindL_get ndP hp hu k⟩
    · obtain ⟨c, e⟩ := cell_has (n := s.heap.objs.size + 1) k
      refine .inr ⟨.inl k, c, e, ?_⟩
      have q := x.cell y c e
      rw [bindC_get ndP hp hu (by show scope.names.lookup y ≠ _; rw [k]; decide)] at q
      exact q
  · exact e0.hok.fresh (Nat.le_of_lt (x.above y c (PySem.mem_of_lookup h)))
  · unfold start
    show _ = N.length
    rw [List.length_append, List.length_map, List.length_replicate]
    omega
theorem fn_of {CX : CXT} {P : Program} {w : World} {K : PySem.W.Frag} {mg : Str → Option Value} {base : Heap} {k : Nat} {f : Addr} {name qual : Str} {params : Arguments} {body : List Stmt} {scope : Scope} {dV kV doc pm cdv ct oc : Value} {an od : Option Addr}
    {osl : Array (Option Value)} {N ps : List Str} {sp : Sp} (lk : K.lookup f = some ⟨oc, od, .func (PySem.W.fnOf name qual params body scope dV kV doc pm an cdv ct), osl⟩) (hcd : PySem.W.codeIn K cdv qual = true) (S : FnScope N ps scope)
    (len : ∀ vs H Q E, sp vs H Q E → vs.length = ps.length)
    (hbody : ∀ (A : Around) (outer : List Env) (s : Shared) (H : Hp) (vs : List V) (Q : VK) (E : XK), Room k (A.deeper (envOfC qual scope s.heap.objs.size f cdv)) → sp vs H Q E →
      ∃ t, PSs (cxOf CX P w K mg base N qual scope f cdv A outer s H E) body t ∧ t { nx := fun _ H' => Q .non H', rt := Q } (start N vs) H) :
    FnOk P w K mg base CX (k + 1) f (PySem.W.fnOf name qual params body scope dV kV doc pm an cdv ct) ps sp := by
  refine ⟨len, fun A outer s H args us vs Q E hr e0 hb r hsp => ?_⟩
  have hl := len _ _ _ _ hsp
  have KX : K.In s.heap := e0.mod.kin.keeps fun b o e => (e0.bs b o e).1
  have lim : s.heap.NoLimit := e0.mod.nolimit.keeps fun b o e => (e0.bs b o e).1
  have hkind : ∀ y ∈ ps.zip us, scope.names.lookup y.1 = some .local ∨ (scope.names.lookup y.1 = some .cell ∧ ((cellsFrom (s.heap.objs.size + 1) scope.names []).lookup y.1).isSome = true) := fun ⟨n, v⟩ hy => by
    rcases S.par n (List.of_mem_zip hy).1 with q | q
    · exact .inl q
    · exact .inr ⟨q, PySem.W.cellsFrom_some _ _ _ (.inl q)⟩
  refine codeAny_call_function hr.depth (KX _ _ lk) rfl S.co S.gen rfl (PySem.W.codeRec_of KX hcd) (hb _ _ _ _ ?_)
  refine wpAny_newFunctionEnv_cells S.kind hkind fun env he s1 x => ?_
  subst he
  refine ⟨lim.keeps x.toInCall.keep, codeAny_func ?_⟩
  obtain ⟨t, ht, hq⟩ := hbody A outer s H vs Q E (hr.deeper _) hsp
  have I : Inv (cxOf CX P w K mg base N qual scope f cdv A outer s H E) [] (start N vs) H s1 := inv_start S hr.hd e0 hl r x
  refine wpAny_mono (ht [] s1 (start N vs) H _ I hq) (fun fl s' hs => ?_) fun e s' hs => hs
  have fin : ∀ {σ' : St} {H' : Hp} {v : V} {u : Value}, Inv (cxOf CX P w K mg base N qual scope f cdv A outer s H E) [] σ' H' s' → RelV v u → Q v H' → CE outer P w H s Q u s' :=
    fun {σ' H' v u} J rv q => ⟨v, H', J.os, J.bare, J.base, J.hok, rv, q⟩
  cases fl with
  | ret u =>
    obtain ⟨v, σ', H', J, rv, q⟩ := hs
    exact fin J rv q
  | next =>
    obtain ⟨σ', H', J, q⟩ := hs
    exact fin (v := V.non) (u := Value.none) J rfl q
  | brk =>
    obtain ⟨_, _, _, q⟩ := hs
    exact False.elim q
  | cont =>
    obtain ⟨_, _, _, q⟩ := hs
    exact False.elim q
end L2
namespace L2
open PySem PySem.Spec PyProof.Rows
section
variable {X : Cx} {x : Str} {p pos : Pos} {e : Expr} {es : List Expr} {t : TA} {id T : String} {r : List V → Hp → VK → Prop}
def tCB (r : List V → Hp → VK → Prop) (t : TA) : TE := fun σ H Q => t σ H fun vs H1 => r vs H1 Q
theorem pe_callB (hc : CallR X (.builtin id) r) (hg : Gl X x) (hm : X.mg x = none) (hv : bootBuiltins x = some (.builtin id)) (ha : PA X (e :: es) t) (hn : x ≠ "__name__" := by decide) (hdb : (x == ("__debug__" : Str)) = false := by decide)
    (he : starEach (e :: es) X.env = (false, eval e X.env) :: starEach es X.env := by rfl) (hpl : (backTo pos (starEach es X.env)).any (·.1) = false := by rfl) : PE X (.Call (.Name x p) (e :: es) [] pos) (tCB r t) := by
  intro pins s σ H Q I h
  refine wpAny_Call_Name_kw (ld_blt I hg hm hv ?_ hn hdb)
  exact PyProof.Rows.callWith_builtin1 (thn (ha pos pins s σ H _ I h) fun us s1 ⟨vs, H1, I1, r1, q1⟩ => hc pins s1 σ H1 vs us Q I1 r1 q1) he hpl
theorem pe_callTy (hc : CallR X (.type T) r) (hg : Gl X x) (hm : X.mg x = none) (hv : bootBuiltins x = some (.type T)) (ha : PA X (e :: es) t) (hn : x ≠ "__name__" := by decide) (hdb : (x == ("__debug__" : Str)) = false := by decide)
    (he : starEach (e :: es) X.env = (false, eval e X.env) :: starEach es X.env := by rfl) (hpl : (backTo pos (starEach es X.env)).any (·.1) = false := by rfl) : PE X (.Call (.Name x p) (e :: es) [] pos) (tCB r t) := by
  intro pins s σ H Q I h
  refine wpAny_Call_Name_kw (ld_blt I hg hm hv ?_ hn hdb)
  exact PyProof.Rows.callWith_type1 (thn (ha pos pins s σ H _ I h) fun us s1 ⟨vs, H1, I1, r1, q1⟩ => hc pins s1 σ H1 vs us Q I1 r1 q1) he hpl
end
end L2
namespace HT
open PySem PyProof.Rows
section
open PySem.SeqAt
open PySem.AutoSeq1 (wpAny_loadPart')
open PySem.MeetsSeq PySem.MeetsSeq2 PySem.MeetsSeq3
end
section
variable {prog : Program} {w : World} {A : Around} {E : Value → Shared → Prop} {s : Shared}
theorem cat_tup {t b : Addr} {vs ws : List Value} {Q : Value → Shared → Prop} (ht : IsTup s.heap t vs.toArray) (hb : IsTup s.heap b ws.toArray) (hv : vs ≠ [])
    (h1 : ws = [] → Q (.ref t) s) (h2 : ws ≠ [] → Q (.ref s.heap.objs.size) { s with heap := s.heap.push { cls := .type "tuple", data := .seq (vs ++ ws).toArray } })
    (hsz : vs.length + ws.length ≤ sizeLine) : wpAny (model prog w) A (binaryOp .Add (.ref t) (.ref b)) Q E s := by
  obtain ⟨⟨cls, dd, data, sl⟩, ho, hc, n, hd⟩ := id ht
  obtain ⟨⟨cls2, dd2, data2, sl2⟩, ho2, hc2, n2, hd2⟩ := id hb
  simp only at hc hd hc2 hd2
  subst hc hd hc2 hd2
  have e : vs.toArray ++ ws.toArray = (vs ++ ws).toArray := by simp
  by_cases hw : ws = []
  · exact concat_meets ⟨_, ho, rfl⟩ ⟨_, ho2, rfl⟩ noFill_tuple_add seq_tuple_add PySem.F.slot_tuple_add PySem.F.entry_tuple_add (PySem.F.args_tuple_add_2 _ _)
      (tuple_addW1 t b vs.toArray ws.toArray n n2 dd dd2 sl sl2 (by simpa using hv) (by simp [hw])) ⟨ho, ho2, h1 hw⟩
  · refine concat_meets ⟨_, ho, rfl⟩ ⟨_, ho2, rfl⟩ noFill_tuple_add seq_tuple_add PySem.F.slot_tuple_add PySem.F.entry_tuple_add (PySem.F.args_tuple_add_2 _ _)
      (tuple_addW2 t b vs.toArray ws.toArray n n2 dd dd2 sl sl2 (by simpa using hv) (by simpa using hw) (by rw [List.size_toArray, List.size_toArray]; exact hsz)) ⟨ho, ho2, ?_⟩
    rw [e]
    exact h2 hw
def sIx (n d : Nat) : Option Int → Nat
  | none => d
  | some v => if v < 0 then (v + (n : Int)).toNat else min v.toNat n
theorem sIx_none (n d : Nat) : sIx n d none = d := rfl
theorem sIx_nat (n d k : Nat) : sIx n d (some (k : Int)) = min k n := by
  show (if (k : Int) < 0 then ((k : Int) + (n : Int)).toNat else min (k : Int).toNat n) = min k n
  rw [if_neg (by omega), Int.toNat_natCast]
theorem sIx_le (n d : Nat) (hd : d ≤ n) (o : Option Int) : sIx n d o ≤ n := by
  cases o with
  | none => exact hd
  | some v =>
    show (if v < 0 then (v + (n : Int)).toNat else min v.toNat n) ≤ n
    by_cases hv : v < 0
    · rw [if_pos hv]; omega
    · rw [if_neg hv]; exact Nat.min_le_right _ _
theorem clip_eq (v : Int) (n d : Nat) : (if v < 0 then max (v + (n : Int)) 0 else min v (n : Int)) = ((sIx n d (some v) : Nat) : Int) := by
  show (if v < 0 then max (v + (n : Int)) 0 else min v (n : Int)) = (((if v < 0 then (v + (n : Int)).toNat else min v.toNat n) : Nat) : Int)
  by_cases hv : v < 0
  · simp only [if_pos hv]; omega
  · simp only [if_neg hv]; omega
theorem adjust_gen (lo hi : Option Int) (n : Nat) : Builtin.Slice.sliceAdjust lo hi 1 (n : Int) = (((sIx n 0 lo : Nat) : Int), ((sIx n n hi : Nat) : Int)) := by
  have h1 : ¬ ((1 : Int) < 0) := by omega
  unfold Builtin.Slice.sliceAdjust
  simp only [h1, if_false]
  refine Prod.ext ?_ ?_
  · cases lo with
    | none => rfl
    | some v => exact clip_eq v n 0
  · cases hi with
    | none => rfl
    | some v => exact clip_eq v n n
theorem places_gen (i j : Nat) : Builtin.Slice.slicePlaces (i : Int) (j : Int) 1 = j - i := by
  unfold Builtin.Slice.slicePlaces
  have h1 : (1 : Int) > 0 := by omega
  simp only [h1, if_true, Int.ediv_one]
  split <;> omega
theorem slicePart_ {v : Value} {o : Option Int} {Q : Option Int → Shared → Prop} (p : IsPart v o) (h : Q o s) : wpAny (model prog w) A (Builtin.Slice.slicePartIndex v) Q E s := by
  cases p with
  | none => exact slicePart_none h
  | int i t => exact slicePart_int h
theorem sliceApplied_gen {sl : Addr} {vl vu : Value} {lo hi : Option Int} {n : Nat} {Q : Int × Int × Nat → Shared → Prop} (hs : s.heap.IsSliceOf sl vl vu .none) (pl : IsPart vl lo) (pu : IsPart vu hi)
    (h : Q (((sIx n 0 lo : Nat) : Int), 1, sIx n n hi - sIx n 0 lo) s) : wpAny (model prog w) A (Builtin.Slice.sliceApplied (.ref sl) (pure (n : Int))) Q E s := by
  obtain ⟨os, hos, hcs, hds⟩ := id hs
  unfold Builtin.Slice.sliceApplied Builtin.Slice.sliceFields
  refine wpAny_bind (wpAny_bind (wpAny_field hos hds (x := vl) rfl (wpAny_bind (wpAny_field hos hds (x := vu) rfl (wpAny_bind (wpAny_field hos hds (x := .none) rfl (wpAny_pure ?_)))))))
  refine wpAny_bind (slicePart_none ?_)
  show wpAny _ _ (if ((1 : Int) == 0) = true then _ else _) _ _ s
  rw [if_neg (by decide)]
  refine wpAny_bind (slicePart_ pl (wpAny_bind (slicePart_ pu (wpAny_bind (wpAny_pure ?_)))))
  show wpAny _ _ (match Builtin.Slice.sliceAdjust lo hi 1 (n : Int) with | (lo, hi) => pure (lo, (1 : Int), Builtin.Slice.slicePlaces lo hi 1)) _ _ s
  rw [adjust_gen lo hi n]
  show wpAny _ _ (pure (((sIx n 0 lo : Nat) : Int), (1 : Int), Builtin.Slice.slicePlaces ((sIx n 0 lo : Nat) : Int) ((sIx n n hi : Nat) : Int) 1)) _ _ s
  rw [places_gen]
  exact wpAny_pure h
theorem pick_gen (xs : Array Value) (i k : Nat) : ((List.range k).filterMap fun (m : Nat) => xs[((i : Int) + (m : Int) * 1).toNat]?).toArray = ((xs.toList.drop i).take k).toArray := by
  have e : (fun (m : Nat) => xs[((i : Int) + (m : Int) * 1).toNat]?) = fun m => xs[i + m]? := by
    funext m
    have : ((i : Int) + (m : Int) * 1).toNat = i + m := by omega
    rw [this]
  rw [e]
  have := pick_run xs i k
  rw [List.filterMap_map] at this
  have e2 : ((fun x => xs[x]?) ∘ fun x => i + x) = fun m => xs[i + m]? := rfl
  rw [e2] at this
  rw [this]
theorem getItem_tuple_cut {t sl : Addr} {items : Array Value} {vl vu : Value} {lo hi : Option Int} {Q : Value → Shared → Prop} (ht : IsTup s.heap t items) (hs : s.heap.IsSliceOf sl vl vu .none) (pl : IsPart vl lo) (pu : IsPart vu hi)
    (hw : ¬ (sIx items.size 0 lo = 0 ∧ sIx items.size items.size hi = items.size))
    (h : Q (.ref s.heap.objs.size) { s with heap := s.heap.push { cls := .type "tuple", data := .seq ((items.toList.drop (sIx items.size 0 lo)).take (sIx items.size items.size hi - sIx items.size 0 lo)).toArray } })
    (hsz : items.size ≤ sizeLine) : wpAny (model prog w) A (getItem (.ref t) (.ref sl)) Q E s := by
  have htake : sizeOk (.seq ((items.toList.drop (sIx items.size 0 lo)).take (sIx items.size items.size hi - sIx items.size 0 lo)).toArray) := by
    show ((items.toList.drop (sIx items.size 0 lo)).take (sIx items.size items.size hi - sIx items.size 0 lo)).toArray.size ≤ sizeLine
    rw [List.size_toArray, List.length_take, List.length_drop, Array.length_toList]
    omega
  have hj : sIx items.size items.size hi ≤ items.size := sIx_le _ _ (Nat.le_refl _) hi
  obtain ⟨os, hos, hcs, hds⟩ := id hs
  have hTs : s.TypeIs (.ref sl) "slice" := ⟨os, hos, hcs⟩
  unfold getItem
  try with_reducible refine wpAny_holding ?_
  first | refine wpAny_bind (wpAny_pure ?_) | skip
  refine wpAny_bind (wpAny_sequenceKey ht.typeIs (by decide) ?_)
  refine wpAny_bind (wpAny_callSpecial?_slot (name := Str.ofString "__getitem__") ht.typeIs PyProof.Rows.slot_tuple_getitem
    (wpAny_call_entry PyProof.Rows.slot_tuple_getitem ht.typeIs entry_tuple_getitem ?_ (args_tuple_getitem _ _)))
  show wpAny _ _ (Builtin.Tuple.tupleItemsOf (.ref t) >>= _) _ _ s
  refine wpAny_bind (tupleItemsOf_ ht ?_)
  refine wpAny_bind (wpAny_typeOf hTs ?_)
  rw [if_pos (by decide)]
  refine wpAny_bind (sliceApplied_gen hs pl pu ?_)
  have hno : ¬ ((((sIx items.size 0 lo : Nat) : Int) == 0 && (1 : Int) == 1 && (sIx items.size items.size hi - sIx items.size 0 lo) == items.size) = true) := by
    intro q
    rw [Bool.and_eq_true, Bool.and_eq_true] at q
    have q1 : ((sIx items.size 0 lo : Nat) : Int) = 0 := eq_of_beq q.1.1
    have q2 : sIx items.size items.size hi - sIx items.size 0 lo = items.size := eq_of_beq q.2
    exact hw ⟨by omega, by omega⟩
  show wpAny _ _ (if (((sIx items.size 0 lo : Nat) : Int) == 0 && (1 : Int) == 1 && (sIx items.size items.size hi - sIx items.size 0 lo) == items.size) = true then _ else _) _ _ s
  rw [if_neg hno, pick_gen]
  first
    | exact wpAny_bind (m := Builtin.Tuple.tupleExact _) (wpAny_newObj_type (wpAny_pure ⟨_, rfl, wpAny_pure h⟩) htake)
    | exact wpAny_bind (m := Builtin.Tuple.tupleExact _) (wpAny_newObj_type (wpAny_bind (wpAny_pure (wpAny_pure ⟨_, rfl, wpAny_pure h⟩))) htake)
    | exact wpAny_bind (wpAny_bind (m := Builtin.Tuple.tupleExact _) (wpAny_newObj_type (wpAny_pure (wpAny_pure ⟨_, rfl, wpAny_pure h⟩)) htake))
    | exact wpAny_bind (wpAny_bind (m := Builtin.Tuple.tupleExact _) (wpAny_newObj_type (wpAny_pure ⟨_, rfl, wpAny_pure h⟩) htake))
end
end HT
namespace L2
open PySem PySem.Spec PyProof.Rows
abbrev TO := St → Hp → (Option Int → Hp → Prop) → Prop
def PO (X : Cx) (e : Option Expr) (t : TO) : Prop :=
  ∀ (pins : List (Addr × Obj)) (s : Shared) (σ : St) (H : Hp) (Q : Option Int → Hp → Prop), Inv X pins σ H s → t σ H Q →
    wpAny (model X.prog X.w) X.A (evalPart e X.env) (fun u s' => ∃ o H', Inv X pins σ H' s' ∧ IsPart u o ∧ Q o H') X.xe s
def tNoPart : TO := fun _ H Q => Q none H
def tPart (t : TE) : TO := fun σ H Q => t σ H fun x H1 => ∃ i, x = .int i ∧ Q (some i) H1
section
variable {X : Cx} {e : Expr} {te : TE} {lo hi : Option Expr} {tl th : TO} {pos p2 : Pos}
theorem po_none : PO X none tNoPart := by
  intro pins s σ H Q I h
  rw [evalPart_none]
  exact wpAny_pure ⟨none, H, I, .none, h⟩
theorem po_some (h : PE X e te) : PO X (some e) (tPart te) := by
  intro pins s σ H Q I hw
  rw [evalPart_some]
  refine thn (h pins s σ H _ I hw) fun u s1 ⟨x, H1, I1, r1, q1⟩ => ?_
  obtain ⟨i, rfl, q⟩ := q1
  obtain ⟨t, rfl⟩ := r1
  exact ⟨some i, H1, I1, .int i t, q⟩
def SlR (X : Cx) (r : V → Option Int → Option Int → Hp → VK → Prop) : Prop :=
  ∀ (pins : List (Addr × Obj)) (s : Shared) (σ : St) (H : Hp) (x : V) (v vl vu : Value) (lo hi : Option Int) (sl : Addr) (Q : VK), Inv X pins σ H s → RelV x v → s.heap.IsSliceOf sl vl vu .none → IsPart vl lo → IsPart vu hi → r x lo hi H Q →
    ∃ T id, typeLookup (.type T) "__getitem__" = pure (some (.builtin id)) ∧ s.TypeIs v T ∧ wpAny (model X.prog X.w) X.A (getItem v (.ref sl)) (EP X pins σ Q) X.xe s
def tSl (r : V → Option Int → Option Int → Hp → VK → Prop) (te : TE) (tl th : TO) : TE := fun σ H Q => te σ H fun x H1 => tl σ H1 fun l H2 => th σ H2 fun u H3 => r x l u H3 Q
theorem pe_slice {r : V → Option Int → Option Int → Hp → VK → Prop} (hr : SlR X r) (he : PE X e te) (hl : PO X lo tl) (hu : PO X hi th) : PE X (.Subscript e (.Slice lo hi none p2) pos) (tSl r te tl th) := by
  intro pins s σ H Q I h
  refine Subscript_ (thn (he pins s σ H _ I h) fun v s1 ⟨x, H1, I1, r1, q1⟩ => ?_)
  refine wpAny_Slice (thn (hl pins s1 σ H1 _ I1 q1) fun vl s2 ⟨l, H2, I2, pl, q2⟩ => thn (hu pins s2 σ H2 _ I2 q2) fun vu s3 ⟨u, H3, I3, pu, q3⟩ => ?_)
  rw [evalPart_none]
  refine wpAny_pure ?_
  have I4 : Inv X pins σ H3 { s3 with heap := s3.heap.push { cls := .type "slice", data := .fields #[vl, vu, .none] } } := I3.kept (t' := s3.toks) fun b ob q => Heap.get?_push_of_some _ q
  obtain ⟨T, id, hT, ht, hg⟩ := hr pins { s3 with heap := s3.heap.push { cls := .type "slice", data := .fields #[vl, vu, .none] } } σ H3 x v vl vu l u s3.heap.objs.size Q I4 r1 (Heap.IsSliceOf.new ..) pl pu q3
  show wpAny (model X.prog X.w) X.A (subscriptTail e (.Slice lo hi none p2) v (.ref s3.heap.objs.size)) (EP X pins σ Q) X.xe { s3 with heap := s3.heap.push { cls := .type "slice", data := .fields #[vl, vu, .none] } }
  exact tail_any (ops := [.ref s3.heap.objs.size, v]) ht hT hg (by with_unfolding_all rfl)
def cutV (xs : List V) (lo hi : Option Int) : List V := (xs.drop (HT.sIx xs.length 0 lo)).take (HT.sIx xs.length xs.length hi - HT.sIx xs.length 0 lo)
theorem cutV_length (xs : List V) (lo hi : Option Int) : (cutV xs lo hi).length ≤ xs.length := by
  unfold cutV
  rw [List.length_take, List.length_drop]
  omega
def rSlT (K : PySem.W.Frag) : V → Option Int → Option Int → Hp → VK → Prop := fun x lo hi H Q => ∃ a xs, x = .ref a ∧ SqT K H a xs ∧
  ¬ (HT.sIx xs.length 0 lo = 0 ∧ HT.sIx xs.length xs.length hi = xs.length) ∧ ∀ p, H p = none → Q (.ref p) (upd H p (.tup (cutV xs lo hi)))
theorem sl_tup : SlR X (rSlT X.K) := by
  intro pins s σ H x v vl vu lo hi sl Q I rx hs pl pu h
  obtain ⟨a, xs, rfl, hx, hw, q⟩ := h
  cases rx
  obtain ⟨its, r, ht, hz⟩ := I.tuple hx
  have hlen : its.toArray.size = xs.length := by rw [List.size_toArray]; exact r.length.symm
  refine ⟨"tuple", _, PyProof.Rows.slot_tuple_getitem.lookup, ht.typeIs, ?_⟩
  refine HT.getItem_tuple_cut ht hs pl pu (by rw [hlen]; exact hw) ?_ (by rw [hlen]; exact hz)
  rw [hlen]
  refine ⟨.ref s.heap.objs.size, _, I.laid (t' := s.toks) (o := .tup (cutV xs lo hi)) (fun b ob q => Heap.get?_push_of_some _ q) (Nat.le_refl _) ?_, rfl, q _ (I.hok.fresh (Nat.le_refl _))⟩
  exact ⟨Nat.le_trans (cutV_length xs lo hi) hz, _, (r.drop (HT.sIx xs.length 0 lo)).take (HT.sIx xs.length xs.length hi - HT.sIx xs.length 0 lo), IsTup.new _ _⟩
def rCatT (K : PySem.W.Frag) : R2 := fun x y H Q => ∃ a b xs ys, x = .ref a ∧ y = .ref b ∧ SqT K H a xs ∧ SqT K H b ys ∧ xs ≠ [] ∧ xs.length + ys.length ≤ sizeLine ∧
  (ys = [] → Q (.ref a) H) ∧ (ys ≠ [] → ∀ p, H p = none → Q (.ref p) (upd H p (.tup (xs ++ ys))))
theorem Vals.nil_iff {xs : List V} {us : List Value} (r : Vals xs us) : us = [] ↔ xs = [] := by
  cases r with
  | nil => simp
  | cons _ _ => simp
theorem op_catT : OpR X (binaryOp .Add) (rCatT X.K) := by
  intro pins s σ H x y v u Q I rx ry h
  obtain ⟨a, b, xs, ys, rfl, rfl, ha, hb, hx, hz, q1, q2⟩ := h
  cases rx
  cases ry
  obtain ⟨its, r1, p1, _⟩ := I.tuple ha
  obtain ⟨its2, r2, p2, _⟩ := I.tuple hb
  refine HT.cat_tup p1 p2 (fun z => hx (r1.nil_iff.mp z)) (fun z => ⟨.ref a, H, I, rfl, q1 (r2.nil_iff.mp z)⟩) (fun z => ?_) (by rw [← r1.length, ← r2.length]; exact hz)
  refine ⟨.ref s.heap.objs.size, _, I.laid (t' := s.toks) (o := .tup (xs ++ ys)) (fun b ob q => Heap.get?_push_of_some _ q) (Nat.le_refl _) ?_, rfl, q2 (fun w => z (r2.nil_iff.mpr w)) _ (I.hok.fresh (Nat.le_refl _))⟩
  exact ⟨by rw [List.length_append]; exact hz, _, r1.append r2, IsTup.new _ _⟩
end
end L2
namespace L2
open PySem PySem.Spec PyProof.Rows
def ixN (n : Nat) (i : Int) : Option Nat := if 0 ≤ i then (if i < n then some i.toNat else none) else if -(n : Int) ≤ i then some (i + n).toNat else none
def atI {α : Type} (xs : List α) (i : Int) : Option α := (ixN xs.length i).bind fun j => xs[j]?
theorem ixN_seq {n : Nat} {i : Int} {j : Nat} (h : ixN n i = some j) : seqIndex? i n = some j ∧ j < n ∧ -(n : Int) ≤ i ∧ i < n := by
  unfold ixN at h
  by_cases h0 : 0 ≤ i
  · rw [if_pos h0] at h
    by_cases h1 : i < n
    · rw [if_pos h1] at h
      have e : i.toNat = j := Option.some.inj h
      exact ⟨by rw [seqIndex_of h0 h1, e], by omega, by omega, h1⟩
    · rw [if_neg h1] at h; cases h
  · rw [if_neg h0] at h
    by_cases h1 : -(n : Int) ≤ i
    · rw [if_pos h1] at h
      have e : (i + n).toNat = j := Option.some.inj h
      exact ⟨by rw [seqIndex_neg (by omega) h1, e], by omega, h1, by omega⟩
    · rw [if_neg h1] at h; cases h
theorem atI_get {α : Type} {xs : List α} {i : Int} {v : α} (h : atI xs i = some v) : ∃ j, seqIndex? i xs.length = some j ∧ xs[j]? = some v ∧ j < xs.length ∧ -(xs.length : Int) ≤ i ∧ i < xs.length := by
  unfold atI at h
  cases e : ixN xs.length i with
  | none => rw [e] at h; cases h
  | some j =>
    rw [e] at h
    obtain ⟨h1, h2, h3, h4⟩ := ixN_seq e
    exact ⟨j, h1, h, h2, h3, h4⟩
theorem atI_nat {α : Type} {xs : List α} {j : Nat} {v : α} (h : xs[j]? = some v) : atI xs (j : Int) = some v := by
  have hj : j < xs.length := (List.getElem?_eq_some_iff.mp h).1
  have e : ixN xs.length (j : Int) = some j := by
    unfold ixN
    rw [if_pos (by omega), if_pos (by omega)]; simp
  unfold atI; rw [e]; exact h
theorem atI_last {α : Type} (xs : List α) (v : α) : atI (xs ++ [v]) (-1) = some v := by
  have hl : (xs ++ [v]).length = xs.length + 1 := by simp
  have e : ixN (xs ++ [v]).length (-1) = some xs.length := by
    unfold ixN
    rw [hl, if_neg (by decide), if_pos (by omega)]
    congr 1
    omega
  unfold atI
  rw [e]
  show (xs ++ [v])[xs.length]? = some v
  simp
def PlainIx (b : Expr) : Prop := ∀ o i, subscripted b false o i = operate [o, i] (getItem o i)
def IxR (X : Cx) (r : R2) : Prop :=
  ∀ (value slice : Expr) (pins : List (Addr × Obj)) (s : Shared) (σ : St) (H : Hp) (x y : V) (v u : Value) (Q : VK), Inv X pins σ H s → RelV x v → RelV y u → r x y H Q →
    subscripted slice false v u = operate [v, u] (getItem v u) → wpAny (model X.prog X.w) X.A (subscriptTail value slice v u) (EP X pins σ Q) X.xe s
def MtR (X : Cx) (id : String) (r : V → List V → Hp → VK → Prop) : Prop :=
  ∀ (pins : List (Addr × Obj)) (s : Shared) (σ : St) (H : Hp) (x : V) (xs : List V) (v : Value) (us : List Value) (Q : VK), Inv X pins σ H s → RelV x v → Vals xs us → r x xs H Q →
    wpAny (model X.prog X.w) X.A (call (.builtin id) (v :: us)) (EP X pins σ Q) X.xe s
section
variable {X : Cx} {a b : Expr} {ta tb : TE} {pos : Pos}
theorem IxR.or {r r' : R2} (h : IxR X r) (h' : IxR X r') : IxR X (fun x y H Q => r x y H Q ∨ r' x y H Q) := by
  intro value slice pins s σ H x y v u Q I rx ry q hs
  rcases q with q | q
  · exact h value slice pins s σ H x y v u Q I rx ry q hs
  · exact h' value slice pins s σ H x y v u Q I rx ry q hs
theorem pe_ix {r : R2} (hr : IxR X r) (ha : PE X a ta) (hb : PE X b tb) (hs : PlainIx b) : PE X (.Subscript a b pos) (tOp r ta tb) := by
  intro pins s σ H Q I h
  exact Subscript_ (binT ha hb I h fun v u s2 x y H2 I2 rx ry q => hr a b pins s2 σ H2 x y v u Q I2 rx ry q (hs _ _))
def rIxL (K : PySem.W.Frag) : R2 := fun x y H Q => ∃ p xs i v, x = .ref p ∧ y = .int i ∧ SqL K H p xs ∧ atI xs i = some v ∧ Q v H
def rIxT (K : PySem.W.Frag) : R2 := fun x y H Q => ∃ p xs i v, x = .ref p ∧ y = .int i ∧ SqT K H p xs ∧ atI xs i = some v ∧ Q v H
def rIxS : R2 := fun x y H Q => ∃ z i c, x = .str z ∧ y = .int i ∧ z.length ≤ sizeLine ∧ atI z.cps.toList i = some c ∧ Q (.str ⟨#[c]⟩) H
theorem ix_list : IxR X (rIxL X.K) := by
  intro value slice pins s σ H x y v u Q I rx ry h hs
  obtain ⟨p, xs, i, z, rfl, rfl, hq, he, q⟩ := h
  cases rx
  obtain ⟨t, rfl⟩ := ry
  obtain ⟨its, r, pl, hz⟩ := I.list hq
  obtain ⟨j, h1, h2, h3, h4, h5⟩ := atI_get he
  obtain ⟨w, ew, rw'⟩ := r.get h2
  have hl := r.length
  have hn := line63
  have fin : EP X pins σ Q w s := ⟨z, H, I, rw', q⟩
  by_cases h0 : 0 ≤ i
  · have hj : i.toNat = j := by
      rw [seqIndex_of h0 h5] at h1
      exact Option.some.inj h1
    exact item_listR pl.isList h0 (by omega) (by rw [hj]; simpa using ew) fin hs
  · have hj : (i + (its.toArray.size : Int)).toNat = j := by
      rw [seqIndex_neg (by omega) h4] at h1
      rw [List.size_toArray, ← hl]
      exact Option.some.inj h1
    exact subscriptTail_builtinR (x := w) pl.isList.typeIs slot_list_getitem.lookup
      (wpAny_getItem_list_neg (Q := fun r s' => r = w ∧ EP X pins σ Q r s') pl.isList (by omega) (by rw [List.size_toArray] <;> omega) (by omega) (by rw [hj]; simpa using ew) ⟨rfl, fin⟩) hs
theorem ix_tup : IxR X (rIxT X.K) := by
  intro value slice pins s σ H x y v u Q I rx ry h hs
  obtain ⟨p, xs, i, z, rfl, rfl, hq, he, q⟩ := h
  cases rx
  obtain ⟨t, rfl⟩ := ry
  obtain ⟨its, r, pl, hz⟩ := I.tuple hq
  obtain ⟨j, h1, h2, h3, h4, h5⟩ := atI_get he
  obtain ⟨w, ew, rw'⟩ := r.get h2
  have hl := r.length
  have hn := line63
  have fin : EP X pins σ Q w s := ⟨z, H, I, rw', q⟩
  exact subscriptTail_builtinR (x := w) pl.typeIs slot_tuple_getitem.lookup
    (getItem_tuple (j := j) (Q := fun r s' => r = w ∧ EP X pins σ Q r s') pl (by omega) (by omega) (by rw [List.size_toArray, ← hl]; exact h1) (by simpa using ew) ⟨rfl, fin⟩) hs
theorem ix_str : IxR X rIxS := by
  intro value slice pins s σ H x y v u Q I rx ry h hs
  obtain ⟨z, i, c, rfl, rfl, hz, he, q⟩ := h
  obtain ⟨t, rfl⟩ := rx
  obtain ⟨t', rfl⟩ := ry
  obtain ⟨j, h1, h2, h3, h4, h5⟩ := atI_get he
  have hl : z.cps.toList.length = z.length := by simp [Str.length]
  rw [hl] at h1 h4 h5
  have hn := line63
  exact tail_any (typeIs_str s z t) slot_str_getitem.lookup (getItem_str (c := c) (by
    have e1 : decide (i < -(2 ^ 63 : Int)) = false := decide_eq_false (by omega)
    have e2 : decide (i ≥ 2 ^ 63) = false := decide_eq_false (by omega)
    rw [e1, e2, Bool.or_false]) (by rw [h1]; simpa using h2) ⟨.str ⟨#[c]⟩, H, I.tok _, ⟨_, rfl⟩, q⟩) hs
def rIx (K : PySem.W.Frag) : R2 := fun x y H Q => rIxL K x y H Q ∨ rIxT K x y H Q ∨ rIxS x y H Q
theorem ix_seq : IxR X (rIx X.K) := ix_list.or (ix_tup.or ix_str)
theorem mapSeq_set (its : List Value) (n j : Nat) (u : Value) : Obj.mapSeq (·.setIfInBounds j u) { cls := .type "list", data := .seq its.toArray n } = { cls := .type "list", data := .seq (its.set j u).toArray n } := by
  simp [Obj.mapSeq]
theorem Inv.lst {pins : List (Addr × Obj)} {σ : St} {H : Hp} {s : Shared} {p : Addr} {xs : List V} (I : Inv X pins σ H s) (h : H p = some (.lst xs)) :
    ∃ (its : List Value) (n : Nat), Vals xs its ∧ s.heap.get? p = some { cls := .type "list", data := .seq its.toArray n } ∧ xs.length ≤ sizeLine := by
  obtain ⟨z, its, n, r, e⟩ := I.hok p _ h
  exact ⟨its, n, r, e, z⟩
theorem Inv.lstUpd {pins : List (Addr × Obj)} {σ : St} {H : Hp} {s : Shared} {p : Addr} {xs ys : List V} {its its' : List Value} {n n' : Nat} {f : Obj → Obj} (I : Inv X pins σ H s) (h : H p = some (.lst xs))
    (ho : s.heap.get? p = some { cls := .type "list", data := .seq its.toArray n }) (hf : f { cls := .type "list", data := .seq its.toArray n } = { cls := .type "list", data := .seq its'.toArray n' }) (r : Vals ys its') (hz : ys.length ≤ sizeLine) (t : Nat) :
    Inv X pins σ (upd H p (.lst ys)) { s with heap := s.heap.update p f, toks := t } := by
  have e : (s.heap.update p f).get? p = some { cls := .type "list", data := .seq its'.toArray n' } := by
    rw [Heap.get?_update_self f ho (by rw [hf] <;> rfl), hf]
  refine I.write (x := p) (e := p) (by rw [h]; trivial) (.inl rfl) (fun b u hb q => (Heap.get?_update_other _ _ (Ne.symm hb)).trans q) ⟨_, e⟩ ?_
  exact ⟨hz, its', n', r, e⟩
def rSetL : V → V → V → Hp → (Hp → Prop) → Prop := fun o i v H Q => ∃ p xs k j, o = .ref p ∧ i = .int k ∧ H p = some (.lst xs) ∧ ixN xs.length k = some j ∧ Q (upd H p (.lst (xs.set j v)))
theorem set_list : PSet X rSetL := by
  intro pins s σ H o i v ov iv u Q I ro ri rv h
  obtain ⟨p, xs, k, j, rfl, rfl, hp, hj, q⟩ := h
  cases ro
  obtain ⟨t, rfl⟩ := ri
  obtain ⟨its, n, r, ho, hz⟩ := I.lst hp
  obtain ⟨h1, h2, h3, h4⟩ := ixN_seq hj
  have hl := r.length
  have hn := line63
  have I' : Inv X pins σ (upd H p (.lst (xs.set j v))) { s with heap := s.heap.update p (Obj.mapSeq (·.setIfInBounds j u)) } :=
    I.lstUpd hp ho (mapSeq_set its n j u) (r.set rv j) (by rw [List.length_set]; exact hz) s.toks
  by_cases h0 : 0 ≤ k
  · have hk : k.toNat = j := by
      rw [seqIndex_of h0 h4] at h1
      exact Option.some.inj h1
    exact PySem.W.ki_setAt ho h0 (by omega) (by rw [List.size_toArray, ← hl]; exact h4) (by rw [hk]; exact ⟨_, I', q⟩)
  · have hk : (k + (its.toArray.size : Int)).toNat = j := by
      rw [seqIndex_neg (by omega) h3] at h1
      rw [List.size_toArray, ← hl]
      exact Option.some.inj h1
    exact PySem.W.ki_setBack ho (by omega) (by rw [List.size_toArray, ← hl]; exact h3) (by omega) (by rw [hk]; exact ⟨_, I', q⟩)
theorem slice_bounds (lo hi : Option Int) (n : Nat) : (sliceBounds lo hi none n).1 = ((HT.sIx n 0 lo : Nat) : Int) ∧ (sliceBounds lo hi none n).2.1 = ((HT.sIx n n hi : Nat) : Int) ∧ (sliceBounds lo hi none n).2.2 = 1 := by
  refine ⟨?_, ?_, rfl⟩
  · cases lo with
    | none => simp [sliceBounds, HT.sIx]
    | some i =>
      simp only [sliceBounds, HT.sIx, Option.getD_none, show (1 : Int) > 0 by decide, if_true]
      by_cases h : i < 0
      · simp only [h, if_true] <;> omega
      · simp only [h, if_false] <;> omega
  · cases hi with
    | none => simp [sliceBounds, HT.sIx]
    | some i =>
      simp only [sliceBounds, HT.sIx, Option.getD_none, show (1 : Int) > 0 by decide, if_true]
      by_cases h : i < 0
      · simp only [h, if_true] <;> omega
      · simp only [h, if_false] <;> omega
theorem slicePick_cut (its : List Value) (lo hi : Option Int) : slicePick its.toArray lo hi none = ((its.drop (HT.sIx its.length 0 lo)).take (HT.sIx its.length its.length hi - HT.sIx its.length 0 lo)).toArray := by
  obtain ⟨h1, h2, h3⟩ := slice_bounds lo hi its.toArray.size
  unfold slicePick
  rw [h1, h2, h3]
  simp only [sliceRange_one, pick_run, List.size_toArray] <;> rfl
def rSlL (K : PySem.W.Frag) : V → Option Int → Option Int → Hp → VK → Prop := fun x lo hi H Q => ∃ a xs, x = .ref a ∧ SqL K H a xs ∧ ∀ p, H p = none → Q (.ref p) (upd H p (.lst (cutV xs lo hi)))
theorem sl_list : SlR X (rSlL X.K) := by
  intro pins s σ H x v vl vu lo hi sl Q I rx hs pl pu h
  obtain ⟨a, xs, rfl, hx, q⟩ := h
  cases rx
  obtain ⟨its, r, ht, hz⟩ := I.list hx
  have hlen := r.length
  refine ⟨"list", _, slot_list_getitem.lookup, ht.isList.typeIs, ?_⟩
  refine wpAny_getItem_list_slice ht.isList hs pl pu .none (by simp) ?_ (by rw [List.size_toArray] <;> omega)
  rw [slicePick_cut, ← hlen]
  refine ⟨.ref s.heap.objs.size, _, I.laid (t' := s.toks) (o := .lst (cutV xs lo hi)) (fun b ob q => Heap.get?_push_of_some _ q) (Nat.le_refl _) ?_, rfl, q _ (I.hok.fresh (Nat.le_refl _))⟩
  exact ⟨Nat.le_trans (cutV_length xs lo hi) hz, _, 0, (r.drop (HT.sIx xs.length 0 lo)).take (HT.sIx xs.length xs.length hi - HT.sIx xs.length 0 lo), Heap.get?_push_size _ rfl⟩
def flatV : V → Bool
  | .non => true
  | .bl _ => true
  | .int _ => true
  | .str _ => true
  | _ => false
def eqV : V → V → Bool
  | .non, .non => true
  | .bl a, .bl b => a == b
  | .bl a, .int b => (if a then 1 else 0) == b
  | .int a, .bl b => a == (if b then 1 else 0)
  | .int a, .int b => a == b
  | .str a, .str b => a == b
  | _, _ => false
theorem eqAt_V {A : Around} {s : Shared} {y x : V} {u v : Value} (ry : RelV y u) (rx : RelV x v) (fy : flatV y = true) (fx : flatV x = true) : SeqAt.EqAt A s u v (eqV y x) := by
  cases y with
  | non =>
    cases ry
    cases x with
    | non => cases rx; exact SeqAt.EqAt.same _
    | bl b => cases rx; exact SeqAt.EqAt.none_bool b
    | int b => obtain ⟨t, rfl⟩ := rx; exact SeqAt.EqAt.none_int b t
    | str b => obtain ⟨t, rfl⟩ := rx; exact SeqAt.EqAt.none_str b t
    | _ => exact absurd (show false = true from fx) Bool.false_ne_true
  | bl a =>
    cases ry
    cases x with
    | non => cases rx; exact SeqAt.EqAt.bool_none a
    | bl b => cases rx; exact SeqAt.EqAt.bool_bool a b
    | int b => obtain ⟨t, rfl⟩ := rx; exact SeqAt.EqAt.bool_int a b t
    | str b => obtain ⟨t, rfl⟩ := rx; exact SeqAt.EqAt.bool_str a b t
    | _ => exact absurd (show false = true from fx) Bool.false_ne_true
  | int a =>
    obtain ⟨t', rfl⟩ := ry
    cases x with
    | non => cases rx; exact SeqAt.EqAt.int_none a t'
    | bl b => cases rx; exact SeqAt.EqAt.int_bool a t' b
    | int b => obtain ⟨t, rfl⟩ := rx; exact SeqAt.EqAt.int_int a t' b t
    | str b => obtain ⟨t, rfl⟩ := rx; exact SeqAt.EqAt.int_str a t' b t
    | _ => exact absurd (show false = true from fx) Bool.false_ne_true
  | str a =>
    obtain ⟨t', rfl⟩ := ry
    cases x with
    | non => cases rx; exact SeqAt.EqAt.str_none a t'
    | bl b => cases rx; exact SeqAt.EqAt.str_bool a t' b
    | int b => obtain ⟨t, rfl⟩ := rx; exact SeqAt.EqAt.str_int a t' b t
    | str b => obtain ⟨t, rfl⟩ := rx; exact SeqAt.EqAt.str_str a t' b t
    | _ => exact absurd (show false = true from fx) Bool.false_ne_true
  | _ => exact absurd (show false = true from fy) Bool.false_ne_true
def eqU (x : V) (u : Value) : Bool := match u with
  | .none => eqV .non x
  | .bool b => eqV (.bl b) x
  | .int i _ => eqV (.int i) x
  | .str z _ => eqV (.str z) x
  | _ => false
theorem eqU_of {x y : V} {u : Value} (r : RelV y u) (f : flatV y = true) : eqU x u = eqV y x := by
  cases y with
  | non => cases r; rfl
  | bl b => cases r; rfl
  | int i => obtain ⟨t, rfl⟩ := r; rfl
  | str z => obtain ⟨t, rfl⟩ := r; rfl
  | _ => exact absurd (show false = true from f) Bool.false_ne_true
theorem any_eqU {x : V} : ∀ {xs : List V} {us : List Value}, Vals xs us → xs.all flatV = true → us.any (eqU x) = xs.any fun y => eqV y x
  | _, _, .nil, _ => rfl
  | y :: xs, u :: us, .cons r t, f => by
    rw [List.all_cons, Bool.and_eq_true] at f
    rw [List.any_cons, List.any_cons, eqU_of r f.1, any_eqU t f.2]
theorem mem_eqAt {A : Around} {s : Shared} {x : V} {v : Value} (rx : RelV x v) (fx : flatV x = true) : ∀ {xs : List V} {us : List Value}, Vals xs us → xs.all flatV = true → ∀ u ∈ us, SeqAt.EqAt A s u v (eqU x u)
  | _, _, .nil, _ => fun u hu => by cases hu
  | y :: xs, u :: us, .cons r t, f => fun u' hu => by
    rw [List.all_cons, Bool.and_eq_true] at f
    rcases List.mem_cons.mp hu with rfl | hu
    · rw [eqU_of r f.1]; exact eqAt_V r rx f.1 fx
    · exact mem_eqAt rx fx t f.2 u' hu
def inV (x : V) (xs : List V) : Bool := xs.any fun y => eqV y x
def rIn (K : PySem.W.Frag) (neg : Bool) : R2 := fun x y H Q => ∃ p xs, y = .ref p ∧ (SqL K H p xs ∨ SqT K H p xs) ∧ flatV x = true ∧ xs.all flatV = true ∧ Q (.bl (if neg then !inV x xs else inV x xs)) H
theorem op_in_seq : OpR X (compareOp .In) (rIn X.K false) := by
  intro pins s σ H x y v u Q I rx ry h
  obtain ⟨p, xs, rfl, hq, fx, fs, q⟩ := h
  cases ry
  rcases hq with hq | hq
  · obtain ⟨its, r, pl, hz⟩ := I.list hq
    refine SeqAt.in_listAt (eqU x) pl.isList (fun w hw => mem_eqAt rx fx r fs w (by simpa using hw)) ⟨.bl _, H, I, rfl, ?_⟩
    rw [show its.toArray.any (eqU x) = its.any (eqU x) by simp, any_eqU r fs]
    exact q
  · obtain ⟨its, r, pl, hz⟩ := I.tuple hq
    refine SeqAt.in_tupleAt (eqU x) pl (fun w hw => mem_eqAt rx fx r fs w (by simpa using hw)) ⟨.bl _, H, I, rfl, ?_⟩
    rw [show its.toArray.any (eqU x) = its.any (eqU x) by simp, any_eqU r fs]
    exact q
theorem op_notIn_seq : OpR X (compareOp .NotIn) (rIn X.K true) := by
  intro pins s σ H x y v u Q I rx ry h
  obtain ⟨p, xs, rfl, hq, fx, fs, q⟩ := h
  cases ry
  rcases hq with hq | hq
  · obtain ⟨its, r, pl, hz⟩ := I.list hq
    refine SeqAt.notIn_listAt (eqU x) pl.isList (fun w hw => mem_eqAt rx fx r fs w (by simpa using hw)) ⟨.bl _, H, I, rfl, ?_⟩
    rw [show its.toArray.any (eqU x) = its.any (eqU x) by simp, any_eqU r fs]
    exact q
  · obtain ⟨its, r, pl, hz⟩ := I.tuple hq
    refine SeqAt.notIn_tupleAt (eqU x) pl (fun w hw => mem_eqAt rx fx r fs w (by simpa using hw)) ⟨.bl _, H, I, rfl, ?_⟩
    rw [show its.toArray.any (eqU x) = its.any (eqU x) by simp, any_eqU r fs]
    exact q
theorem call_len_seq : CallR X (.builtin "len") (fun xs H Q => ∃ p ys, xs = [.ref p] ∧ (SqL X.K H p ys ∨ SqT X.K H p ys) ∧ Q (.int ys.length) H) := by
  intro pins s σ H xs us Q I r h
  obtain ⟨p, ys, rfl, hq, q⟩ := h
  obtain ⟨u, rfl, rx⟩ := vals1 r
  cases rx
  have hn := line63
  rcases hq with hq | hq
  · obtain ⟨its, r', pl, hz⟩ := I.list hq
    have hlen := r'.length
    exact Calls.call_len_list pl.isList (by simp only [List.size_toArray] <;> omega) ⟨.int ys.length, H, I.tok _, ⟨s.toks + 1, by rw [List.size_toArray, hlen]⟩, q⟩
  · obtain ⟨its, r', pl, hz⟩ := I.tuple hq
    have hlen := r'.length
    exact len_tuple pl (by simp only [List.size_toArray] <;> omega) ⟨.int ys.length, H, I.tok _, ⟨s.toks + 1, by rw [List.size_toArray, hlen]⟩, q⟩
theorem call_len_str : CallR X (.builtin "len") (fun xs H Q => ∃ z, xs = [.str z] ∧ z.length ≤ sizeLine ∧ Q (.int z.length) H) := by
  intro pins s σ H xs us Q I r h
  obtain ⟨z, rfl, hz, q⟩ := h
  obtain ⟨u, rfl, t, rfl⟩ := vals1 r
  have hn := line63
  exact len_str (by omega) ⟨.int z.length, H, I.tok _, ⟨_, rfl⟩, q⟩
theorem call_list_of : CallR X (.type "list") (fun xs H Q => ∃ p ys, xs = [.ref p] ∧ (SqL X.K H p ys ∨ SqT X.K H p ys) ∧ ∀ l, H l = none → Q (.ref l) (upd H l (.lst ys))) := by
  intro pins s σ H xs us Q I r h
  obtain ⟨p, ys, rfl, hq, q⟩ := h
  obtain ⟨u, rfl, rx⟩ := vals1 r
  cases rx
  have fin : ∀ (its : List Value), Vals ys its → ys.length ≤ sizeLine → ∀ (h' : Heap) (c' : Nat), (∀ b o', s.heap.get? b = some o' → h'.get? b = some o') →
      h'.get? s.heap.objs.size = some { cls := .type "list", dict := none, data := .seq its.toArray c', slots := #[] } → EP X pins σ Q (.ref s.heap.objs.size) { s with heap := h' } := fun its r' hz h' c' kp e =>
    ⟨.ref s.heap.objs.size, _, I.laid (t' := s.toks) kp (Nat.le_refl _) (show ObjOk X.prog X.w _ h' _ (.lst ys) from ⟨hz, its, c', r', e⟩), rfl, q _ (I.hok.fresh (Nat.le_refl _))⟩
  rcases hq with hq | hq
  · obtain ⟨its, r', pl, hz⟩ := I.list hq
    have hlen := r'.length
    obtain ⟨o, ho, hc, n, hd⟩ := pl.isList
    exact call_list_seq p (.inl rfl) ho hc hd (fun h' c' kp e => fin its r' hz h' c' kp e) (by simp only [List.size_toArray] <;> omega)
  · obtain ⟨its, r', pl, hz⟩ := I.tuple hq
    have hlen := r'.length
    obtain ⟨o, ho, hc, n, hd⟩ := pl
    exact call_list_seq p (.inr rfl) ho hc hd (fun h' c' kp e => fin its r' hz h' c' kp e) (by simp only [List.size_toArray] <;> omega)
theorem call_tuple_of : CallR X (.type "tuple") (fun xs H Q => ∃ p ys, xs = [.ref p] ∧ ((SqL X.K H p ys ∧ ∀ l, H l = none → Q (.ref l) (upd H l (.tup ys))) ∨ (SqT X.K H p ys ∧ Q (.ref p) H))) := by
  intro pins s σ H xs us Q I r h
  obtain ⟨p, ys, rfl, h⟩ := h
  obtain ⟨u, rfl, rx⟩ := vals1 r
  cases rx
  rcases h with ⟨hq, q⟩ | ⟨hq, q⟩
  · obtain ⟨its, r', pl, hz⟩ := I.list hq
    have hlen := r'.length
    refine call_tuple_list pl.isList (fun h' kp => ?_) (by simp only [List.size_toArray] <;> omega)
    have I1 : Inv X pins σ H { s with heap := h' } := I.kept (t' := s.toks) kp
    have I2 : Inv X pins σ (upd H h'.objs.size (.tup ys)) { s with heap := h'.push { cls := .type "tuple", data := .seq its.toArray } } :=
      I1.laid (t' := s.toks) (fun b o e => Heap.get?_push_of_some _ e) (Nat.le_refl _) (show ObjOk X.prog X.w _ _ _ (.tup ys) from ⟨hz, its, r', IsTup.new _ _⟩)
    exact ⟨.ref h'.objs.size, _, I2, rfl, q _ (I1.hok.fresh (Nat.le_refl _))⟩
  · obtain ⟨its, r', pl, hz⟩ := I.tuple hq
    exact call_tuple_same pl ⟨.ref p, H, I, rfl, q⟩
def tyV (K : PySem.W.Frag) (T : String) (x : V) (H : Hp) : Prop := match x with
  | .str _ => T = "str"
  | .int _ => T = "int"
  | .ref p => (T = "list" ∧ ∃ xs, SqL K H p xs) ∨ (T = "tuple" ∧ ∃ o, K.lookup p = some o ∧ o.cls = .type "tuple" ∧ o.dict = none) ∨
      (T = "dict" ∧ ((∃ kvs, H p = some (.dK kvs)) ∨ ∃ kvs, H p = some (.dT kvs))) ∨ (T = "set" ∧ ∃ S n, H p = some (.set S n))
  | _ => False
theorem tyV_is {pins : List (Addr × Obj)} {σ : St} {H : Hp} {s : Shared} {T : String} {x : V} {v : Value} (I : Inv X pins σ H s) (r : RelV x v) (ty : tyV X.K T x H) :
    s.TypeIs v T ∧ ∀ a, v = .ref a → ∃ ob, s.heap.get? a = some ob ∧ ob.dict = none := by
  cases x with
  | str z =>
    obtain ⟨t, rfl⟩ := r
    cases (show T = "str" from ty)
    exact ⟨typeIs_str s z t, fun _ e => nomatch e⟩
  | int i =>
    obtain ⟨t, rfl⟩ := r
    cases (show T = "int" from ty)
    exact ⟨typeIs_int s i t, fun _ e => nomatch e⟩
  | ref p =>
    cases r
    rcases ty with ⟨rfl, xs, hq⟩ | ⟨rfl, o, hk, hc, hd⟩ | ⟨rfl, hk⟩ | ⟨rfl, S, n, hk⟩
    · obtain ⟨its, _, pl, _⟩ := I.list hq
      refine ⟨pl.isList.typeIs, fun a e => ?_⟩
      cases e
      obtain ⟨o, n, e, c, hd, _⟩ := pl
      exact ⟨o, e, hd⟩
    · refine ⟨⟨o, I.kIn p o hk, hc⟩, fun a e => ?_⟩
      cases e
      exact ⟨o, I.kIn _ o hk, hd⟩
    · have z : ∃ o, s.heap.get? p = some o ∧ o.ExactDict := by
        rcases hk with ⟨kvs, hk⟩ | ⟨kvs, hk⟩
        · obtain ⟨_, _, _, _, o, _, _, e, ex, _⟩ := I.hok p _ hk
          exact ⟨o, e, ex⟩
        · obtain ⟨_, _, _, _, o, _, _, e, ex, _⟩ := I.hok p _ hk
          exact ⟨o, e, ex⟩
      obtain ⟨o, e, ex⟩ := z
      refine ⟨⟨o, e, ex.1⟩, fun a e2 => ?_⟩
      cases e2
      exact ⟨o, e, ex.2.1⟩
    · obtain ⟨o, _, _, _, e, ex, _⟩ := I.hok p _ hk
      refine ⟨⟨o, e, ex.1⟩, fun a e2 => ?_⟩
      cases e2
      exact ⟨o, e, ex.2.1⟩
  | _ => exact False.elim ty
def tBM0 (K : PySem.W.Frag) (T : String) (r : V → List V → Hp → VK → Prop) (to : TE) : TE := fun σ H Q => to σ H fun x H1 => tyV K T x H1 ∧ r x [] H1 Q
def tBM (K : PySem.W.Frag) (T : String) (r : V → List V → Hp → VK → Prop) (to : TE) (t : TA) : TE := fun σ H Q => to σ H fun x H1 => tyV K T x H1 ∧ t σ H1 fun xs H2 => r x xs H2 Q
variable {o e : Expr} {es : List Expr} {to : TE} {t : TA} {name : Str} {apos cpos : Pos} {T id : String} {r : V → List V → Hp → VK → Prop}
theorem pe_bm0 (pa : PlainAttrs T) (slot : Slot T name id) (hty : typeOf (.builtin id) = pure (.type "method_descriptor")) (hm : MtR X id r) (ho : PE X o to)
    (hbase : attributeBase o name X.env (eval o X.env) = eval o X.env := by rfl) (hline : (apos.endLine == cpos.line) = true := by rfl) : PE X (.Call (.Attribute o name apos) [] [] cpos) (tBM0 X.K T r to) := by
  intro pins s σ H Q I h
  refine wpAny_Call_method0_late hbase hline (thn (ho pins s σ H _ I h) fun v s1 ⟨x, H1, I1, r1, ty, q1⟩ => ?_)
  obtain ⟨h1, h2⟩ := tyV_is I1 r1 ty
  exact ⟨T, id, pa, slot, hty, h1, h2, Calls.callWith_builtin rfl (PySem.evalArgs_none (hm pins s1 σ H1 x [] v [] Q I1 r1 .nil q1))⟩
theorem pe_bm (pa : PlainAttrs T) (slot : Slot T name id) (hty : typeOf (.builtin id) = pure (.type "method_descriptor")) (hm : MtR X id r) (ho : PE X o to) (ha : PA X (e :: es) t)
    (hbase : attributeBase o name X.env (eval o X.env) = eval o X.env := by rfl)
    (hfew : ((backTo cpos (starEach (e :: es) X.env)).all (fun x => !x.1) && (backToKw cpos (keywordEach [] X.env)).all (fun x => x.1.isSome)
      && decide ((e :: es).length + ([] : List Keyword).length + (if ([] : List Keyword).isEmpty then 0 else 1) < 30)) = true := by rfl)
    (hline : (apos.endLine == cpos.line) = true := by rfl) (hs : starEach (e :: es) X.env = (false, eval e X.env) :: starEach es X.env := by rfl) (hplain : (backTo cpos (starEach es X.env)).any (·.1) = false := by rfl) :
    PE X (.Call (.Attribute o name apos) (e :: es) [] cpos) (tBM X.K T r to t) := by
  intro pins s σ H Q I h
  refine wpAny_Call_method_late hbase hfew hline rfl (thn (ho pins s σ H _ I h) fun v s1 ⟨x, H1, I1, r1, ty, q1⟩ => ?_)
  obtain ⟨h1, h2⟩ := tyV_is I1 r1 ty
  refine ⟨T, id, pa, slot, hty, h1, h2, ?_⟩
  have hA := ha cpos pins s1 σ H1 _ I1 q1
  rw [hs] at hA ⊢
  refine Calls.callWith_builtin (by show (false || (backTo cpos (starEach es X.env)).any (·.1)) = false; rw [hplain] <;> rfl) (Calls.evalArgs_plain ?_)
  exact thn hA fun us s2 ⟨vs, H2, I2, r2, q2⟩ => hm pins s2 σ H2 x vs v us Q I2 r1 r2 q2
end
end L2
namespace L2
open PySem PySem.Spec PyProof.Rows
def MtM (X : Cx) (id : String) (r : V → List V → Hp → VK → Prop) : Prop :=
  ∀ (pins : List (Addr × Obj)) (s : Shared) (σ : St) (H : Hp) (x : V) (xs : List V) (v : Value) (us : List Value) (Q : VK), Inv X pins σ H s → RelV x v → Vals xs us → r x xs H Q →
    wpAny (model X.prog X.w) X.A (call (.builtin id) (v :: us)) (EP X pins σ Q) X.xe s
theorem Vals.one : ∀ {x : V} {us : List Value}, Vals [x] us → ∃ u, us = [u] ∧ RelV x u
  | _, _, .cons r .nil => ⟨_, rfl, r⟩
theorem Vals.two : ∀ {x y : V} {us : List Value}, Vals [x, y] us → ∃ u v, us = [u, v] ∧ RelV x u ∧ RelV y v
  | _, _, _, .cons r (.cons q .nil) => ⟨_, _, rfl, r, q⟩
theorem Vals.zero : ∀ {us : List Value}, Vals [] us → us = []
  | _, .nil => rfl
theorem Vals.dropLast {xs : List V} {us : List Value} (h : Vals xs us) : Vals xs.dropLast us.dropLast := by
  induction h with
  | nil => exact .nil
  | cons r t ih =>
    cases t with
    | nil => exact .nil
    | cons q t' => exact .cons r ih
theorem Vals.reverse {xs : List V} {us : List Value} (h : Vals xs us) : Vals xs.reverse us.reverse := by
  induction h with
  | nil => exact .nil
  | cons r t ih => rw [List.reverse_cons, List.reverse_cons]; exact Vals.append ih (.cons r .nil)
theorem erase_last {α : Type} (l : List α) : l.eraseIdx (l.length - 1) = l.dropLast := by
  induction l with
  | nil => rfl
  | cons a r ih =>
    cases r with
    | nil => rfl
    | cons b r =>
      have e : (a :: b :: r).length - 1 = ((b :: r).length - 1) + 1 := by
        have h1 : (a :: b :: r).length = r.length + 2 := rfl
        have h2 : (b :: r).length = r.length + 1 := rfl
        omega
      rw [e, List.eraseIdx_cons_succ, ih]
      all_goals rfl
section
variable {X : Cx} {pins : List (Addr × Obj)} {σ : St} {H : Hp} {s : Shared} {l b : Addr} {xs ys zs : List V}
theorem Inv.lset {its its' : List Value} {n : Nat} {f : Array Value → Array Value} {t' : Nat} (I : Inv X pins σ H s) (hH : H l = some (.lst xs))
    (e : s.heap.get? l = some { cls := .type "list", data := .seq its.toArray n }) (hf : f its.toArray = its'.toArray) (hv : Vals ys its') (hz : ys.length ≤ sizeLine) :
    Inv X pins σ (upd H l (.lst ys)) { s with heap := s.heap.update l (Obj.mapSeq f), toks := t' } := by
  have q := PySem.IsL.update e f
  rw [hf] at q
  refine I.write (x := l) (e := l) (by rw [hH]; exact trivial) (.inl rfl) (fun b' u hb hu => (Heap.get?_update_other s.heap (Obj.mapSeq f) (Ne.symm hb)).trans hu) ⟨_, q⟩ ?_
  exact ⟨hz, its', _, hv, q⟩
theorem Inv.lnew {its : List Value} {t' : Nat} (I : Inv X pins σ H s) (hv : Vals ys its) (hz : ys.length ≤ sizeLine) :
    Inv X pins σ (upd H s.heap.objs.size (.lst ys)) { s with heap := s.heap.push { cls := .type "list", data := .seq its.toArray }, toks := t' } :=
  I.laid (fun _ _ q => Heap.get?_push_of_some _ q) (Nat.le_refl _) ⟨hz, its, 0, hv, Heap.get?_push_size _ rfl⟩
theorem Inv.fresh (I : Inv X pins σ H s) : H s.heap.objs.size = none := I.hok.fresh (Nat.le_refl _)
theorem Inv.lstM (I : Inv X pins σ H s) (hH : H l = some (.lst xs)) : xs.length ≤ sizeLine ∧ ∃ (its : List Value) (n : Nat), Vals xs its ∧ xs.length = its.length ∧ s.heap.get? l = some { cls := .type "list", data := .seq its.toArray n } := by
  obtain ⟨z, its, n, r, e⟩ := I.hok l _ hH
  exact ⟨z, its, n, r, r.length, e⟩
theorem notLongL {n : Nat} (h : n ≤ sizeLine) : Builtin.List.listTooLong n = false := by
  unfold Builtin.List.listTooLong
  exact decide_eq_false (by omega)
end
section
variable {X : Cx}
def rAppend : V → List V → Hp → VK → Prop := fun x vs H Q => ∃ l xs y, x = .ref l ∧ vs = [y] ∧ H l = some (.lst xs) ∧ xs.length < sizeLine ∧ Q .non (upd H l (.lst (xs ++ [y])))
theorem mt_append : MtM X "list.append" rAppend := by
  intro pins s σ H x vs v us Q I rx rv h
  obtain ⟨l, xs, y, rfl, rfl, hH, hz, q⟩ := h
  cases rx
  obtain ⟨u, rfl, ru⟩ := rv.one
  obtain ⟨z, its, n, r, hl, e⟩ := I.lstM hH
  refine call_meets F.slot_list_append ⟨_, e, rfl⟩ F.entry_list_append (F.args_list_append_2 _ _) (PySem.list_append l its.toArray n u (by rw [List.size_toArray]; omega)) ⟨e, ?_⟩
  refine ⟨.non, _, I.lset (its' := its ++ [u]) hH e (by simp) (r.append (.cons ru .nil)) ?_, rfl, q⟩
  rw [List.length_append, List.length_singleton]
  omega
def rExtend : V → List V → Hp → VK → Prop := fun x vs H Q => ∃ l b xs zs, x = .ref l ∧ vs = [.ref b] ∧ H l = some (.lst xs) ∧ H b = some (.lst zs) ∧ xs.length + zs.length ≤ sizeLine ∧ Q .non (upd H l (.lst (xs ++ zs)))
theorem mt_extend : MtM X "list.extend" rExtend := by
  intro pins s σ H x vs v us Q I rx rv h
  obtain ⟨l, b, xs, zs, rfl, rfl, hH, hB, hz, q⟩ := h
  cases rx
  obtain ⟨u, rfl, ru⟩ := rv.one
  cases ru
  obtain ⟨z, its, n, r, hl, e⟩ := I.lstM hH
  obtain ⟨z2, its2, n2, r2, hl2, e2⟩ := I.lstM hB
  have hsz : its.toArray.size + its2.toArray.size ≤ sizeLine := by rw [List.size_toArray, List.size_toArray]; omega
  have hlong : ¬ (!its.toArray.isEmpty && Builtin.List.listTooLong (its.toArray.size + its2.toArray.size)) = true := by
    rw [notLongL hsz, Bool.and_false]
    exact Bool.false_ne_true
  refine call_meets F.slot_list_extend ⟨_, e, rfl⟩ F.entry_list_extend (F.args_list_extend_2 _ _)
    (AutoSeq1.list_extend_list_list_0 l its.toArray n b its2.toArray n2 hlong (by rw [List.size_toArray]; omega) (by omega)) ⟨e, e2, ?_⟩
  refine ⟨.non, _, I.lset (its' := its ++ its2) hH e (by simp) (r.append r2) ?_, rfl, q⟩
  rw [List.length_append]
  omega
def rPop : V → List V → Hp → VK → Prop := fun x vs H Q => ∃ l xs y, x = .ref l ∧ vs = [] ∧ H l = some (.lst xs) ∧ xs[xs.length - 1]? = some y ∧ Q y (upd H l (.lst xs.dropLast))
theorem mt_pop : MtM X "list.pop" rPop := by
  intro pins s σ H x vs v us Q I rx rv h
  obtain ⟨l, xs, y, rfl, rfl, hH, hy, q⟩ := h
  cases rx
  have hus := rv.zero
  subst hus
  obtain ⟨z, its, n, r, hl, e⟩ := I.lstM hH
  obtain ⟨u, hu, ru⟩ := r.get hy
  have hy' : its.toArray[its.toArray.size - 1]? = some u := by
    show its.toArray[its.length - 1]? = some u
    rw [← Array.getElem?_toList, ← hl]
    exact hu
  refine call_meets F.slot_list_pop ⟨_, e, rfl⟩ F.entry_list_pop (F.args_list_pop_1 _) (MeetsSeq.list_pop_last l its.toArray n u hy' (by rw [List.size_toArray]; omega)) ⟨e, ?_⟩
  refine ⟨y, _, I.lset (its' := its.dropLast) hH e ?_ r.dropLast ?_, ru, q⟩
  · show its.toArray.eraseIdxIfInBounds (its.toArray.size - 1) = its.dropLast.toArray
    rw [List.size_toArray, List.eraseIdxIfInBounds_toArray, erase_last]
  · rw [List.length_dropLast]
    omega
def rCat : R2 := fun x y H Q => ∃ l b xs zs, x = .ref l ∧ y = .ref b ∧ H l = some (.lst xs) ∧ H b = some (.lst zs) ∧ xs.length + zs.length ≤ sizeLine ∧ ∀ p, H p = none → Q (.ref p) (upd H p (.lst (xs ++ zs)))
theorem op_cat : OpR X (binaryOp .Add) rCat := by
  intro pins s σ H x y v u Q I rx ry h
  obtain ⟨l, b, xs, zs, rfl, rfl, hH, hB, hz, q⟩ := h
  cases rx
  cases ry
  obtain ⟨z, its, n, r, hl, e⟩ := I.lstM hH
  obtain ⟨z2, its2, n2, r2, hl2, e2⟩ := I.lstM hB
  refine PySem.P.add_list e e2 ?_ (by rw [List.size_toArray, List.size_toArray]; omega)
  have ea : its.toArray ++ its2.toArray = (its ++ its2).toArray := by simp
  rw [ea]
  exact ⟨.ref _, _, I.lnew (t' := s.toks) (r.append r2) (by rw [List.length_append]; omega), rfl, q _ I.fresh⟩
end
section
variable {prog : Program} {w : World} {A : Around} {E : Value → Shared → Prop} {s : Shared}
end
section
variable {X : Cx}
end
end L2
namespace Att
open PySem PySem.W PySem.Calls PyProof.Rows
theorem ints_of_wellAll {P : Params} {h : Heap} : ∀ (ns : List Int) (vs : List Value), WellAll P h vs (ns.map WData.int) → IntsAre vs ns := by
  intro ns
  induction ns with
  | nil =>
    intro vs w
    rw [List.map_nil] at w
    cases w
    exact .nil
  | cons n ns ih =>
    intro vs w
    rw [List.map_cons] at w
    cases w with
    | cons a b =>
      cases a
      exact .cons _ _ (ih _ b)
theorem script_of {l : OpenLaw} {n : Nat} (hn : l.most = some n) {P : Params} {h : Heap} {args : List WData} {vals : List Value}
    (hpre : l.row.toRowW.claim.pre args = true) (hwl : WellAll P h vals args) :
    ∃ a vs ns, vals = [Value.ref a] ∧ args = [WData.list (ns.map WData.int)] ∧ h.get? a = some { cls := .type "list", data := .seq vs.toArray } ∧ IntsAre vs ns ∧ ns.length ≤ n := by
  have hsh : WShape.hasAll [] args [.list .int] = true := (pre_splitW hpre).1
  have hc : l.pre.holds [] { args := args } = true := (pre_splitW hpre).2
  obtain ⟨d, r, rfl, h1, h2⟩ := hasAllW_cons hsh
  obtain rfl := hasAllW_nil h2
  obtain ⟨xs, rfl, h3⟩ := hasW_list h1
  obtain ⟨ns, rfl⟩ := items_int h3
  have hlen : ns.length ≤ n := by
    unfold OpenLaw.pre at hc
    have h4 : (WTm.not (.lt (.lit (.int (n : Int))) (.len (.arg 0)))).holds [] { args := [.list (ns.map .int)] } = true := by
      have h4 := (holds_andW hc).1
      rw [hn] at h4
      exact h4
    have h5 := condW_of h4 (w_not (w_lt w_lit (w_len_list (w_arg rfl))))
    rw [List.length_map] at h5
    refine Nat.le_of_not_lt fun q => ?_
    have q' : (n : Int) < ((ns.length : Nat) : Int) := by omega
    first
      | (rw [decide_eq_true q'] at h5; exact absurd h5 (by decide))
      | (simp at h5; omega)
  cases hwl with
  | cons w1 w2 =>
    cases w2
    cases w1 with
    | list ho hall => exact ⟨_, _, ns, rfl, rfl, ho, ints_of_wellAll ns _ hall, hlen⟩
theorem post_true (l : OpenLaw) (args : List WData) : l.row.toRowW.claim.post args (.bool true) args = true :=
  postW_of (r := l.row.toRowW) (X := (true == true))
    (show WShape.has [] (.bool true) .bool = true by first | rfl | decide | simp [WShape.has, WShape.arms, WShape.armsAll])
    (show (WTm.eq .res (.lit (.bool true))).value [] { args := args, res := some (.bool true), after := args } = some (.bool (true == true)) from w_eq_bool (w_res rfl) w_lit) rfl
theorem attach_call {l : OpenLaw} {n : Nat} {q : Program} {loose : List Str} {XP : (Str → Option Value) → Heap → Prop} {YP : World → Heap → Prop} {d : DefRec}
    (hn : l.most = some n) (hdf : d.params.defaults = [])
    (call : ∀ (w : World) (s₀ s₁ : Shared) (mg mb : Str → Option Value) (fa : Addr) (o : Obj) (pm cd doc : Value) (a : Addr) (vs : List Value) (ns : List Int),
      Ground q loose [] XP w s₀ mg mb s₁.heap → YP w s₁.heap →
      s₁.heap.get? fa = some o → o.data = .func (docDef d.name d.params d.body d.scope pm cd doc) → s₁.heap.CodeRec cd d.name → mg d.name = some (.ref fa) →
      s₁.heap.get? a = some { cls := .type "list", data := .seq vs.toArray } → IntsAre vs ns → ns.length ≤ n → s₁.gens = #[] →
      codeAny (model l.prog w) callerA (.call (.ref fa) ⟨[.ref a], []⟩) (fun r s' => r = .ok (.ret (.bool true)) ∧ OldK s₁.heap s'.heap ∧ s'.os = s₁.os ∧ AllBare s'.gens) s₁) :
    WalkO q loose XP YP l.row.toRowW d [] (fun f vs => PySem.call f vs) := by
  intro w s₀ s₁ mg mb G Y fa o pm cd doc dV kV ho hd hcd hD hmg hg args vals as hpre hlay hrd hwl hlo
  obtain rfl : dV = .none := Dflts.none hD hdf
  obtain rfl : kV = .none := Dflts.noKw hD
  obtain ⟨a, vs, ns, rfl, rfl, hobj, hints, hlen⟩ := script_of hn hpre hwl
  refine enter_call (codeAny_mono (call w s₀ s₁ mg mb fa o pm cd doc a vs ns G Y ho (fd_plain hd) hcd hmg hobj hints hlen hg) fun r s' hq => ?_)
  obtain ⟨rfl, h2, h3, h4⟩ := hq
  exact ⟨.inl ⟨.bool true, .bool true, [], rfl, fun _ => rfl, .bool true, post_true l _, fun _ => ⟨List.Pairwise.nil, fun _ hm => (nomatch hm)⟩⟩, h2, h3, h4⟩
section
variable {prog : Program} {w : World} {A : Around} {E : Value → Shared → Prop} {s : Shared} {K : Frag}
def noObjs (h : Heap) : Heap := { h with objs := #[] }
theorem noObjs_get (h : Heap) (b : Addr) : (noObjs h).get? b = none := by
  cases e : (noObjs h).get? b with
  | none => rfl
  | some o => exact absurd (Heap.lt_size e) (Nat.not_lt_zero _)
def ledger (h : Heap) (L d : Addr) : List (Addr × Obj) := (List.range h.objs.size).filterMap fun a => if a = L ∨ a = d then none else (h.get? a).map fun o => (a, o)
theorem mem_ledger {h : Heap} {L d a : Addr} {o : Obj} : (a, o) ∈ ledger h L d ↔ a ≠ L ∧ a ≠ d ∧ h.get? a = some o := by
  unfold ledger
  rw [List.mem_filterMap]
  constructor
  · rintro ⟨b, _, e⟩
    split at e
    · cases e
    · rename_i hb
      obtain ⟨o', ho, e'⟩ := Option.map_eq_some_iff.mp e
      cases e'
      exact ⟨fun q => hb (.inl q), fun q => hb (.inr q), ho⟩
  · rintro ⟨n1, n2, ho⟩
    refine ⟨a, List.mem_range.mpr (Heap.lt_size ho), ?_⟩
    rw [if_neg (show ¬ (a = L ∨ a = d) from fun q => q.elim n1 n2), ho] <;> rfl
theorem fr_all {h : Heap} {L : Addr} {m : Str → Option Value} (n : h.Ns L m) : Fr (noObjs h) L h m :=
  ⟨n, fun b o e => (by rw [noObjs_get] at e; cases e), Nat.zero_le _⟩
end
end Att
namespace L2
open PySem PySem.Spec PyProof.Rows
theorem vals_ints : ∀ {vs : List Value} {ns : List Int}, IntsAre vs ns → Vals (ns.map V.int) vs
  | _, _, .nil => .nil
  | _, _, .cons n t h => .cons ⟨t, rfl⟩ (vals_ints h)
def Only (H : Hp) : Prop := ∀ b, H b = none ∨ ∃ o xs, H b = some (.frz o (.lst xs))
theorem law_call {P : Program} {w : World} {K : PySem.W.Frag} {mg mb : Str → Option Value} {CX : CXT} {k : Nat} {fa a : Addr} {fd : FuncData} {x : Str} {sp : Sp} {s₁ : Shared} {vs : List Value} {ns : List Int}
    (KX : K.In s₁.heap) (hns : s₁.heap.Ns mainGlobals mg) (hb : s₁.heap.Ns builtinsNs mb) (hbb : ∀ x : Str, x ≠ "__name__" → mb x = bootBuiltins x) (hlim : s₁.heap.NoLimit) (hg : s₁.gens = #[])
    (ha : s₁.heap.get? a = some { cls := .type "list", data := .seq vs.toArray }) (hi : IntsAre vs ns) (hl : ns.length ≤ sizeLine) (hr : Room k callerA)
    (F : ∀ base : Heap, K.In base → base.Ns mainGlobals mg → FnOk P w K mg base CX k fa fd [x] sp) (hbind : ∀ (s : Shared) (u : Value), BindsTo s fd ⟨[u], []⟩ [(x, u)])
    (hsp : ∀ H : Hp, Only H → SqL K H a (ns.map V.int) → sp [.ref a] H (fun v _ => v = .bl true) fun _ _ _ => False)
    (hCX : ∀ H e s', CX [] H s₁ (fun _ _ _ => False) e s' → False) :
    codeAny (model P w) callerA (.call (.ref fa) ⟨[.ref a], []⟩) (fun r s' => r = .ok (.ret (.bool true)) ∧ OldK s₁.heap s'.heap ∧ s'.os = s₁.os ∧ AllBare s'.gens) s₁ := by
  have rv := vals_ints hi
  have lenV := hi.length
  -- from an abstract heap in which nothing but the script may be tracked
  have core : ∀ H : Hp, Only H → SqL K H a (ns.map V.int) → HOk P w H s₁.heap → (∀ b, H b ≠ none → b = a) → (H a ≠ none → K.lookup a = none) →
      codeAny (model P w) callerA (.call (.ref fa) ⟨[.ref a], []⟩) (fun r s' => r = .ok (.ret (.bool true)) ∧ OldK s₁.heap s'.heap ∧ s'.os = s₁.os ∧ AllBare s'.gens) s₁ := by
    intro H hO hS hok hA hK
    have base_of : ∀ {b : Addr} {o : Obj}, s₁.heap.get? b = some o → H b = none → (hidT s₁.heap H).get? b = some o := fun e n => hidT_get e n
    have noA : ∀ {b : Addr} {o : Obj} {es : Array DictEntry} {ep : Nat}, s₁.heap.get? b = some o → o.data = .dict es ep → H b = none := fun {b o es ep} e d => by
      cases q : H b with
      | none => rfl
      | some u =>
        have e' : b = a := hA b (by rw [q]; simp)
        subst e'
        rw [ha] at e; cases e
        have d' : Data.seq vs.toArray _ = Data.dict es ep := d
        cases d'
    have nsK : ∀ {b : Addr} {m : Str → Option Value}, s₁.heap.Ns b m → (hidT s₁.heap H).Ns b m := fun {b m} ⟨o, es, ep, e, d, r⟩ => ⟨o, es, ep, base_of e (noA e d), d, r⟩
    have hKb : K.In (hidT s₁.heap H) := fun b o e => base_of (KX b o e) (by
      cases q : H b with
      | none => rfl
      | some u =>
        have e' : b = a := hA b (by rw [q]; simp)
        subst e'
        rw [hK (by rw [q]; simp)] at e; cases e)
    have hM : Mod K mg (hidT s₁.heap H) := ⟨hKb, nsK hns, ⟨mb, nsK hb, hbb⟩, let ⟨mc, h1, h2⟩ := hlim; ⟨mc, nsK h1, h2⟩⟩
    have e0 : Env0 P w K mg (hidT s₁.heap H) callerA [] s₁ H := ⟨rfl, hM, fun b o e => of_hidT e, Nat.le_of_eq (hidT_size _ _), trivial, fun b hb => absurd (show b ∈ ([] : List Addr) from hb) (by simp), hok, .of_eq hg⟩
    refine codeAny_mono ((F _ hKb (nsK hns)).run callerA [] s₁ H ⟨[.ref a], []⟩ [.ref a] [.ref a] _ _ hr e0 (hbind s₁ (.ref a)) (.cons rfl .nil) (hsp H hO hS)) fun r s' h => ?_
    cases r with
    | error e => exact (hCX H e s' h).elim
    | ok fl =>
      cases fl with
      | next => exact False.elim h
      | brk => exact False.elim h
      | cont => exact False.elim h
      | ret u =>
        obtain ⟨v, H', os, bare, un, hok', r', q⟩ := h
        have q' : v = .bl true := q
        subst q'
        obtain rfl : u = Value.bool true := r'
        refine ⟨rfl, OldK.of_keep fun b o e => ?_, os, bare⟩
        cases q : H b with
        | none => exact un.keep b o e q (by intro z; exact absurd (show b ∈ ([] : List Addr) from z) (by simp)) (by simp)
        | some u =>
          rcases hO b with z | ⟨ob, xs, z⟩
          · rw [q] at z; cases z
          · have z2 := un.frzs b ob _ z
            obtain ⟨e1, _⟩ := hok b _ z
            obtain ⟨e2, _⟩ := hok' b _ z2
            rw [e] at e1; cases e1
            exact e2
  cases hk : K.lookup a with
  | some o =>
    -- the script is one of the module's own objects
    have e := KX a o hk
    rw [ha] at e
    cases e
    refine core (fun _ => none) (fun _ => .inl rfl) (.inr ⟨_, vs.toArray, _, hk, rfl, rfl, rfl, by rw [List.size_toArray, lenV]; exact hl, by simpa using rv⟩) (fun b u z => by have z' : (none : Option HO) = some u := z; cases z') (fun b z => absurd rfl z) fun z => absurd rfl z
  | none =>
    refine core (fun b => if b = a then some (.frz { cls := .type "list", data := .seq vs.toArray } (.lst (ns.map V.int))) else none) (fun b => ?_) (.inl (.inr ⟨{ cls := .type "list", data := .seq vs.toArray }, if_pos rfl⟩)) (fun b u z => ?_) (fun b z => ?_) fun _ => hk
    · by_cases hb : b = a
      · exact .inr ⟨_, _, if_pos hb⟩
      · exact .inl (if_neg hb)
    · by_cases hb : b = a
      · have z' := (if_pos hb).symm.trans z
        cases z'
        subst hb
        exact ⟨ha, by rw [List.length_map]; exact hl, vs, _, rv, ha⟩
      · have z' := (if_neg hb).symm.trans z
        cases z'
    · by_cases hb : b = a
      · exact hb
      · exact absurd (if_neg hb) z
end L2
namespace L2
open PySem PySem.Spec PyProof.Rows
theorem walk_of {l : PySem.W.OpenLaw} {n k : Nat} {q : Program} {loose : List Str} {XP : (Str → Option Value) → Heap → Prop} {YP : World → Heap → Prop} {d : DefRec} {K : Params → PySem.W.Frag} {CX : World → CXT} {sp : World → Sp} {x : Str}
    (hn : l.most = some n) (hn2 : n ≤ sizeLine) (hdf : d.params.defaults = []) (hr : Room k callerA)
    (hY : ∀ (w : World) (h : Heap), YP w h → (K w.params).In h)
    (F : ∀ (w : World) (mg : Str → Option Value) (fa : Addr) (h : Heap), (K w.params).In h → h.Ns mainGlobals mg → mg d.name = some (.ref fa) →
      ∃ fd : FuncData, (∀ (s : Shared) (u : Value), BindsTo s fd ⟨[u], []⟩ [(x, u)]) ∧
        ∀ base : Heap, (K w.params).In base → base.Ns mainGlobals mg → FnOk l.prog w (K w.params) mg base (CX w) k fa fd [x] (sp w))
    (hsp : ∀ (w : World) (H : Hp) (a : Addr) (ns : List Int), ns.length ≤ n → Only H → SqL (K w.params) H a (ns.map V.int) → sp w [.ref a] H (fun v _ => v = .bl true) fun _ _ _ => False)
    (hCX : ∀ (w : World) (H : Hp) (s : Shared) (e : Value) (s' : Shared), CX w [] H s (fun _ _ _ => False) e s' → False) :
    PySem.W.WalkO q loose XP YP l.row.toRowW d [] (fun f vs => PySem.call f vs) := by
  refine Att.attach_call hn hdf fun w s₀ s₁ mg mb fa o pm cd doc a vs ns G Y ho hd hcd hmg hobj hints hlen hg => ?_
  have KX := hY w _ Y
  obtain ⟨fd, hb, hF⟩ := F w mg fa _ KX G.T.g hmg
  exact law_call KX G.T.g G.T.b G.T.builtins G.T.nolimit hg hobj hints (Nat.le_trans hlen hn2) hr hF hb (fun H hO hS => hsp w H a ns hlen hO hS) fun H e s' => hCX w H s₁ e s'
end L2
namespace L2
open PySem PySem.Spec PyProof.Rows
def defArgs (s : Stmt) : Arguments := match s with
  | .FunctionDef _ a _ _ _ _ _ _ _ _ => a
  | _ => { posonlyargs := [], args := [], vararg := none, kwonlyargs := [], kw_defaults := [], kwarg := none, defaults := [] }
def defBody (s : Stmt) : List Stmt := match s with
  | .FunctionDef _ _ b _ _ _ _ _ _ _ => b
  | _ => []
def defScope (s : Stmt) : Scope := match s with
  | .FunctionDef _ _ _ _ _ _ sc _ _ _ => sc
  | _ => { kind := .function, names := [], isGenerator := false, isCoroutine := false }
abbrev CX0 : CXT := fun _ _ _ _ _ _ => False
abbrev E0 : XK := fun _ _ _ => False
theorem pass0 {X : Cx} : Passes CX0 X E0 := fun _ _ _ _ _ _ _ h => h.elim
structure Fun (K : PySem.W.Frag) (x qual : Str) (st : Stmt) (f : Addr) (fd : FuncData) : Prop where
  ex : ∃ (oc : Value) (od : Option Addr) (kV doc pm : Value) (an : Option Addr) (cdv ct : Value) (osl : Array (Option Value)),
    fd = PySem.W.fnOf x qual (defArgs st) (defBody st) (defScope st) .none kV doc pm an cdv ct ∧ K.lookup f = some ⟨oc, od, .func fd, osl⟩ ∧ PySem.W.codeIn K cdv qual = true
  kp : PySem.W.keepIn K (.ref f) = true
section
variable {P : Program} {w : World} {K : PySem.W.Frag} {mg : Str → Option Value} {base : Heap}
theorem Fun.ok {x qual : Str} {st : Stmt} {f : Addr} {fd : FuncData} {N ps : List Str} {k : Nat} {sp : Sp} (F : Fun K x qual st f fd) (S : FnScope N ps (defScope st)) (len : ∀ vs H Q E, sp vs H Q E → vs.length = ps.length)
    (hbody : ∀ (cdv : Value) (A : Around) (outer : List Env) (s : Shared) (H : Hp) (vs : List V) (Q : VK) (E : XK), Room k (A.deeper (envOfC qual (defScope st) s.heap.objs.size f cdv)) → sp vs H Q E →
      ∃ t, PSs (cxOf CX0 P w K mg base N qual (defScope st) f cdv A outer s H E).nox (defBody st) t ∧ t { nx := fun _ H' => Q .non H', rt := Q } (start N vs) H) : FnOk P w K mg base CX0 (k + 1) f fd ps sp := by
  obtain ⟨oc, od, kV, doc, pm, an, cdv, ct, osl, rfl, lk, hcd⟩ := F.ex
  refine fn_of lk hcd S len fun A outer s H vs Q E hr hsp => ?_
  obtain ⟨t, h, q⟩ := hbody cdv A outer s H vs Q E hr hsp
  exact ⟨t, h.nox, q⟩
theorem Fun.binds {x qual : Str} {st : Stmt} {f : Addr} {fd : FuncData} {ps : List Str} (F : Fun K x qual st f fd)
    (h : ∀ (kV doc pm : Value) (an : Option Addr) (cdv ct : Value) (us : List Value), us.length = ps.length → bindArgs (PySem.W.fnOf x qual (defArgs st) (defBody st) (defScope st) .none kV doc pm an cdv ct) ⟨us, []⟩ = pure (ps.zip us)) : Binds K fd ps [] := by
  obtain ⟨oc, od, kV, doc, pm, an, cdv, ct, osl, rfl, lk, hcd⟩ := F.ex
  exact .all (h kV doc pm an cdv ct)
theorem fun_mk {x qual : Str} {st : Stmt} {f : Addr} {oc : Value} {od an : Option Addr} {osl : Array (Option Value)} {kV doc pm cdv ct : Value} (l : K.lookup f = some ⟨oc, od, .func (PySem.W.fnOf x qual (defArgs st) (defBody st) (defScope st) .none kV doc pm an cdv ct), osl⟩)
    (c : PySem.W.codeIn K cdv qual = true) (k : PySem.W.keepIn K (.ref f) = true) : Fun K x qual st f (PySem.W.fnOf x qual (defArgs st) (defBody st) (defScope st) .none kV doc pm an cdv ct) := ⟨⟨oc, od, kV, doc, pm, an, cdv, ct, osl, rfl, l, c⟩, k⟩
end
section
variable {X : Cx}
theorem pv (i : Nat) {x : Str} {pos : Pos} (hN : X.N[i]? = some x := by rfl) (hv : Vis X.env.scope x := by first | exact Or.inl rfl | exact Or.inr (Or.inl rfl) | exact Or.inr (Or.inr rfl)) (hd : (x == ("__debug__" : Str)) = false := by decide)
    (hcd : (x == ("__classdict__" : Str)) = false := by decide) : PE X (.Name x pos) (tVar i) := pe_var hN hv hd hcd
end
theorem iteF {A B : Prop} (h : B) : if false = true then A else B := by
  rw [if_neg Bool.false_ne_true]
  exact h
theorem iteT {A B : Prop} (h : A) : if true = true then A else B := by
  rw [if_pos rfl]
  exact h
theorem ite2 {c A B : Prop} [Decidable c] (h1 : c → A) (h2 : ¬ c → B) : if c then A else B := by
  by_cases h : c
  · rw [if_pos h]
    exact h1 h
  · rw [if_neg h]
    exact h2 h
def Same (H H' : Hp) : Prop := ∀ b o, H b = some o → H' b = some o
theorem Same.refl (H : Hp) : Same H H := fun _ _ h => h
theorem Same.trans {H H1 H2 : Hp} (a : Same H H1) (b : Same H1 H2) : Same H H2 := fun c o h => b c o (a c o h)
theorem Same.free {H H' : Hp} (e : Same H H') {l : Addr} (h : H' l = Option.none) : H l = Option.none := by
  cases q : H l with
  | none => rfl
  | some o =>
    rw [e l o q] at h
    cases h
end L2
namespace L2
open PySem PySem.Spec PyProof.Rows
theorem closure_go (env : Env) : ∀ (names : List (Str × NameKind)) (acc : List (Str × Addr)), (∀ x ∈ names, x.2 = .free → ∃ c, env.cells.lookup x.1 = some c) →
    (∀ x c, acc.lookup x = some c → env.cells.lookup x = some c) →
    ∃ cl : List (Str × Addr), (forIn names acc (fun (x : Str × NameKind) r => (if (x.2 == .free) = true then cellOf env x.1 >>= fun a => pure (ForInStep.yield ((x.1, a) :: r)) else pure (ForInStep.yield r) : Sem (ForInStep (List (Str × Addr)))))) = pure cl ∧
      (∀ x c, cl.lookup x = some c → env.cells.lookup x = some c) ∧ (∀ x c, acc.lookup x = some c → ∃ d, cl.lookup x = some d) ∧ (∀ x ∈ names, x.2 = .free → ∃ c, cl.lookup x.1 = some c)
  | [], acc, _, h2 => ⟨acc, rfl, h2, fun x c e => ⟨c, e⟩, fun x hx => by simp at hx⟩
  | (n, k) :: r, acc, h1, h2 => by
    rw [List.forIn_cons]
    by_cases hk : k = .free
    · subst hk
      obtain ⟨c, hc⟩ := h1 (n, .free) List.mem_cons_self rfl
      obtain ⟨cl, e, a1, a2, a3⟩ := closure_go env r ((n, c) :: acc) (fun x hx => h1 x (List.mem_cons_of_mem _ hx)) (fun x d e => by
        rw [List.lookup_cons] at e
        cases hb : x == n with
        | true =>
          rw [hb] at e
          have hxn : x = n := by simpa using hb
          cases e
          rw [hxn]; exact hc
        | false => rw [hb] at e; exact h2 x d e)
      have hco : cellOf env n = pure c := by unfold cellOf; simp only at hc; rw [hc]
      refine ⟨cl, ?_, a1, fun x d e => ?_, fun x hx hf => ?_⟩
      · simp only [beq_self_eq_true, if_true, hco, pure_bind]
        exact e
      · by_cases hx : x = n
        · subst hx; exact a2 x c (by simp [List.lookup_cons])
        · exact a2 x d (by rw [List.lookup_cons]; have : (x == n) = false := by simpa using hx
                           rw [this]; exact e)
      · rcases List.mem_cons.mp hx with rfl | hx
        · exact a2 n c (by simp [List.lookup_cons])
        · exact a3 x hx hf
    · obtain ⟨cl, e, a1, a2, a3⟩ := closure_go env r acc (fun x hx => h1 x (List.mem_cons_of_mem _ hx)) h2
      have hb : (k == NameKind.free) = false := by simpa using hk
      refine ⟨cl, ?_, a1, a2, fun x hx hf => ?_⟩
      · simp only [hb, Bool.false_eq_true, if_false, pure_bind]
        exact e
      · rcases List.mem_cons.mp hx with rfl | hx
        · exact absurd hf hk
        · exact a3 x hx hf
theorem closure_ok (env : Env) (sc : Scope) (h1 : ∀ x ∈ sc.names, x.2 = .free → ∃ c, env.cells.lookup x.1 = some c) :
    ∃ cl : List (Str × Addr), closureFor sc env = pure cl ∧ (∀ x c, cl.lookup x = some c → env.cells.lookup x = some c) ∧ (∀ x ∈ sc.names, x.2 = .free → ∃ c, cl.lookup x.1 = some c) := by
  obtain ⟨cl, e, a1, _, a3⟩ := closure_go env sc.names [] h1 (fun x c e => by simp at e)
  refine ⟨cl, ?_, a1, a3⟩
  unfold closureFor
  simp only [bind_pure]
  exact e
end L2
namespace L2
open PySem PySem.Spec PyProof.Rows
def Cx.blk (X : Cx) (sc : Scope) (cl : List (Str × Addr)) (N' : List Str) (s3 : Shared) (H3 : Hp) (ex : List Addr) : Cx :=
  { X with N := N', s₀ := s3, H₀ := H3, env := compEnvC sc cl s3.heap.objs.size X.env, outer := X.stack, stack := X.stack, ex := ex, fn := fun _ => false, pn := [], xe := fun _ _ => False }
structure BlkOk (X : Cx) (sc : Scope) : Prop where
  kind : sc.kind = .function
  names : ∀ x ∈ sc.names, x.2 = .local → sc.names.lookup x.1 = some .local
  nocell : ∀ x ∈ sc.names, x.2 ≠ .cell
  free : ∀ x ∈ sc.names, x.2 = .free → X.env.kindOf x.1 = some .cell
theorem lookup_mem_kind {names : List (Str × NameKind)} {x : Str} {k : NameKind} (h : names.lookup x = some k) : (x, k) ∈ names := PySem.mem_of_lookup h
theorem lookup_relabel_back {env : Env} : ∀ {names : List (Str × NameKind)} {x : Str} {k : NameKind},
    (names.map fun (n, k) => if (k == NameKind.free && env.scope.kind == .function && env.kindOf n == some .cell) then (n, NameKind.cell) else (n, k)).lookup x = some k →
    names.lookup x = some k ∨ (k = .cell ∧ names.lookup x = some .free)
  | [], _, _, h => by simp at h
  | (n, k0) :: r, x, k, h => by
    have ih := @lookup_relabel_back env r x k
    change List.lookup x ((if (k0 == NameKind.free && env.scope.kind == .function && env.kindOf n == some .cell) = true then (n, NameKind.cell) else (n, k0)) :: _) = _ at h
    cases hx : x == n with
    | true =>
      by_cases hc : (k0 == NameKind.free && env.scope.kind == .function && env.kindOf n == some .cell) = true
      · rw [if_pos hc] at h
        simp only [List.lookup_cons, hx] at h
        have hk : k0 = .free := by simp only [Bool.and_eq_true, beq_iff_eq] at hc; exact hc.1.1
        cases h
        exact .inr ⟨rfl, by simp only [List.lookup_cons, hx, hk]⟩
      · rw [if_neg hc] at h
        simp only [List.lookup_cons, hx] at h
        cases h
        exact .inl (by simp only [List.lookup_cons, hx])
    | false =>
      have h' : List.lookup x (r.map fun (n, k) => if (k == NameKind.free && env.scope.kind == .function && env.kindOf n == some .cell) then (n, NameKind.cell) else (n, k)) = some k := by
        by_cases hc : (k0 == NameKind.free && env.scope.kind == .function && env.kindOf n == some .cell) = true
        · rw [if_pos hc] at h; simp only [List.lookup_cons, hx] at h; exact h
        · rw [if_neg hc] at h; simp only [List.lookup_cons, hx] at h; exact h
      simp only [List.lookup_cons, hx]
      exact ih h'
section
variable {X : Cx} {pins : List (Addr × Obj)} {σ σ' : St} {H : Hp} {s : Shared} {sc : Scope} {cl : List (Str × Addr)} {N' : List Str} {fp : List Addr}
theorem blk_start (I : Inv X pins σ H s) (B : BlkOk X sc) (c1 : ∀ x c, cl.lookup x = some c → X.env.cells.lookup x = some c) (c2 : ∀ x ∈ sc.names, x.2 = .free → ∃ c, cl.lookup x.1 = some c)
    (hf : ∀ b ∈ fp, FpOk X pins H b ∧ b < s.heap.objs.size) (hlen : σ'.length = N'.length)
    (hcap : ∀ (i : Nat) (x : Str) (v : V), N'[i]? = some x → σ'[i]? = some (some v) → Vis (relabel sc X.env) x → ∃ j : Nat, X.N[j]? = some x ∧ σ[j]? = some (some v) ∧ Vis X.env.scope x ∧ sc.names.lookup x = some .free)
    {h' : Heap} {tk : Nat} (hns : h'.Ns s.heap.objs.size (fun _ => none)) (hsb : Heap.SameBut s.heap.objs.size (s.heap.push { cls := .type "dict", data := .dict #[] }) h') :
    Inv (X.blk sc cl N' s H fp) [] σ' H { s with heap := h', toks := tk } := by
  have hk : ∀ b u, s.heap.get? b = some u → h'.get? b = some u := fun b u e => (hsb.2 b (Nat.ne_of_lt (Heap.lt_size e))).trans (Heap.get?_push_of_some _ e)
  have hcell : ∀ x c, cl.lookup x = some c → c < s.heap.objs.size := fun x c e => by
    obtain ⟨v, q⟩ := I.cell x c (c1 x c e)
    exact q.lt
  have cll : ∀ x c, cl.lookup x = some c → ∃ v, h'.IsCell c v := fun x c e => by
    obtain ⟨v, o, e1, e2⟩ := I.cell x c (c1 x c e)
    exact ⟨v, o, hk _ _ e1, e2⟩
  refine ⟨⟨I.ok.mod, B.kind, I.ok.glob, I.ok.blt, Nat.le_refl _, fun x y c e1 e2 => I.ok.inj x y c (c1 x c e1) (c1 y c e2), fun x hx => ?_, fun x c z => (by cases z), I.ok.hd, I.ok.frames, .inl rfl, fun b hb => ⟨Nat.ne_of_lt (hf b hb).2, fun x c e => (hf b hb).1.2.2.2.2.1 x c (c1 x c e)⟩,
    I.bs, ?_, fun b o e hb => ?_, fun b hb hb' => ?_, I.stack, I.stkFree⟩, rfl, I.bare, Un.kept hk, ⟨_, hns, fun i x v e1 e2 e3 => ?_⟩, cll, I.hok.fresh (Nat.le_refl _), fun x c e => I.freeC x c (c1 x c e), fun p hp => absurd (show p ∈ ([] : List (Addr × Obj)) from hp) (by simp), I.hok.kept hk, hlen⟩
  · have hx' : (relabel sc X.env).names.lookup x = some .cell ∨ (relabel sc X.env).names.lookup x = some .free := hx
    have : sc.names.lookup x = some .free := by
      rcases hx' with h | h
      · rcases lookup_relabel_back h with h | ⟨_, h⟩
        · exact absurd rfl (B.nocell _ (lookup_mem_kind h))
        · exact h
      · rcases lookup_relabel_back h with h | ⟨h0, h⟩
        · exact h
        · cases h0
    exact c2 (x, .free) (lookup_mem_kind this) rfl
  · exact Nat.le_trans I.ok.bsz I.sz
  · have := (hf b hb).1.2.2.2.1
    rcases this with z | z
    · exact I.ok.noex b o e z
    · exact absurd (Nat.lt_of_lt_of_le (Heap.lt_size e) (Nat.le_trans I.ok.bsz z)) (Nat.lt_irrefl _)
  · have := I.stkSub b hb'
    rcases List.mem_cons.mp this with z | z
    · exact (hf b hb).1.2.1 z
    · exact (hf b hb).1.2.2.1 z
  · obtain ⟨j, e4, e5, e6, e7⟩ := hcap i x v e1 e2 e3
    obtain ⟨m, hn, hl⟩ := I.loc
    obtain ⟨u, r, l⟩ := hl j x v e4 e5 e6
    refine ⟨u, r, ?_⟩
    have kf := B.free (x, .free) (lookup_mem_kind e7) rfl
    have kf' : X.env.kindOf x = some .cell := kf
    rcases l with ⟨k1, _⟩ | ⟨_, c, e8, e9⟩
    · rw [kf'] at k1; cases k1
    · obtain ⟨d, hd⟩ := c2 (x, .free) (lookup_mem_kind e7) rfl
      have hd' : cl.lookup x = some d := hd
      have := c1 x d hd'
      rw [e8] at this
      cases this
      refine .inr ⟨?_, c, hd', ?_⟩
      · rcases e3 with z | z | z
        · rcases lookup_relabel_back z with h | ⟨h0, h⟩
          · rw [e7] at h; cases h
          · cases h0
        · exact .inl z
        · exact .inr z
      · obtain ⟨o, q1, q2⟩ := e9
        exact ⟨o, hk _ _ q1, q2⟩
theorem blk_end {H' : Hp} {σ'' : St} {pins' : List (Addr × Obj)} {s' : Shared} {h'' : Heap} (I : Inv X pins σ H s) (hf : ∀ b ∈ fp, FpOk X pins H b ∧ b < s.heap.objs.size) (J : Inv (X.blk sc cl N' s H fp) pins' σ'' H' s')
    (hsb : Heap.SameBut s.heap.objs.size s'.heap h'') : Inv X pins σ H' { s' with heap := h'' } := by
  have ne : ∀ b o, s.heap.get? b = some o → b ≠ s.heap.objs.size := fun b o e => Nat.ne_of_lt (Heap.lt_size e)
  have hfree : H' s.heap.objs.size = none := J.free
  have B : Un (frs X.stack) fp H H' s.heap s'.heap := J.base
  refine I.call' (ch := fp) (s' := { s' with heap := h'' }) J.os ⟨fun b o e n hb hx => ?_, fun b o e n hb hx => ?_, B.free, fun b o e hx => ?_, B.tups, B.frzs, B.tbls⟩ (fun b o e => ?_) J.bare fun b hb => ?_
  · exact (hsb.2 b (ne b o e)).trans (B.keep b o e n hb hx)
  · obtain ⟨sl, q⟩ := B.slot b o e n hb hx
    exact ⟨sl, (hsb.2 b (ne b o e)).trans q⟩
  · obtain ⟨o', q⟩ := B.there b o e hx
    exact ⟨o', (hsb.2 b (ne b o e)).trans q⟩
  · refine (J.hok b o e).stay (fun c w' hc q => (hsb.2 c ?_).trans q) (fun _ q => q) fun _ _ q => q
    rintro rfl
    rcases hc with rfl | hc
    · rw [hfree] at e; cases e
    · rw [hfree] at hc; cases hc
  · obtain ⟨f0, f1, f2, f3, f4, f5⟩ := (hf b hb).1
    exact ⟨f3, f1, f4, f5⟩
end
abbrev TR := St → Hp → (St → Hp → Prop) → Prop
def PR (X : Cx) (rest : Sem Unit) (t : TR) : Prop :=
  ∀ (pins : List (Addr × Obj)) (s : Shared) (σ : St) (H : Hp) (N : St → Hp → Prop), Inv X pins σ H s → t σ H N → wpAny (model X.prog X.w) X.A rest (fun _ s' => ∃ σ' H', Inv X pins σ' H' s' ∧ N σ' H') X.xe s
def PTs (X : Cx) (ifs : List Expr) (t : TT) : Prop :=
  ∀ (pins : List (Addr × Obj)) (s : Shared) (σ : St) (H : Hp) (Q : Bool → Hp → Prop), Inv X pins σ H s → t σ H Q →
    wpAny (model X.prog X.w) X.A (forIn ifs true fun c r => if r = true then do let ok ← isTrue c X.env (eval c X.env); pure (ForInStep.yield ok) else pure (ForInStep.yield r)) (TP X pins σ Q) X.xe s
def tYes : TT := fun _ H Q => Q true H
theorem pts_nil {X : Cx} : PTs X [] tYes := fun _ _ _ H _ I h => wpAny_tests_nil ⟨H, I, h⟩
theorem pts_one {X : Cx} {c : Expr} {t : TT} (h : PT X c t) : PTs X [c] t := fun pins s σ H Q I q => wpAny_tests_one (h pins s σ H Q I q)
def tLoop (J : It) (g : TG) (tt : TT) (tr : TR) (Qe : St → Hp → Prop) (σ : St) (H : Hp) : Prop := ∃ W : Nat → Nat → St → Hp → Prop, (∃ m, W 0 m σ H) ∧ ∀ i m σ H, W i m σ H →
  (J.stop i H ∧ Qe σ H) ∨ (J.go i H ∧ ∃ N : St → Hp → Prop, (∀ σ' H', N σ' H' → ∃ m', m' < m ∧ W (i + 1) m' σ' H') ∧ ∀ x H', J.yld i H x H' → g x σ H' fun σ2 H2 => tt σ2 H2 fun b H3 => if b = true then tr σ2 H3 N else N σ2 H3)
theorem comp_loop {X : Cx} (hE : X.xe = fun _ _ => False) (hc : X.calm = true) {e : Expr} {d : Nat} {tg iter : Expr} {ifs : List Expr} {acc : Value} {rest : Sem Unit} {g : TG} {tt : TT} {tr : TR} {J : It} {fp : List Addr} {it : Addr} {tn : Nat → Heap → Prop}
    (heq : compTurn e d (.ref it) acc X.env = (do
      standAt iter.pos
      match ← pyNext (.ref it) with
      | none => pure (.done .next)
      | some v =>
        letOwnedTupleGo tg (.ref it) v
        assign tg X.env v
        let mut ok := true
        for c in ifs do
          if ok then ok ← isTrue c X.env (eval c X.env)
        if ok then rest
        again (.compLoop e d (.ref it) acc X.env)))
    (hq : (Code.compLoop e d (.ref it) acc X.env).quiet = true) (hu : X.A.under (.compLoop e d (.ref it) acc X.env) = X.A) (hden : (model X.prog X.w).den (.compLoop e d (.ref it) acc X.env) = (compTurn e d (.ref it) acc X.env).onRaise (fun x => do noteFrame x X.env; theTreesLotGoes x))
    (hg : PG X tg g) (ht : PTs X ifs tt) (hr : PR X rest tr) (T : Turn X.prog X.w X.K tg J fp it tn)
    {pins : List (Addr × Obj)} {σ : St} {H : Hp} {s : Shared} {Qe : St → Hp → Prop} {R : Result → Shared → Prop} (I : Inv X pins σ H s) (st : tn 0 s.heap) (f2 : ∀ b ∈ fp, FpOk X pins H b) (h : tLoop J g tt tr Qe σ H)
    (hR : ∀ s' σ' H', Inv X pins σ' H' s' → Qe σ' H' → R (.ok .next) s') :
    codeAny (model X.prog X.w) X.A (.compLoop e d (.ref it) acc X.env) R s := by
  obtain ⟨W, ⟨m0, w0⟩, turn⟩ := h
  have stat : ∀ {H' : Hp}, (∀ b ∈ fp, H' b = none) → ∀ b ∈ fp, FpOk X pins H' b := fun hn b hb => ⟨hn b hb, (f2 b hb).2⟩
  have no : ∀ {α : Type} {t : Sem α} {Q : α → Shared → Prop} {s : Shared} {E : Value → Shared → Prop}, wpAny (model X.prog X.w) X.A t Q X.xe s → wpAny (model X.prog X.w) X.A t Q E s := fun {α t Q s E} h =>
    wpAny_mono h (fun _ _ x => x) fun _ _ x => by rw [hE] at x; exact x.elim
  refine codeAny_loop hq (fun n s' => ∃ i σ' H', Inv X pins σ' H' s' ∧ tn i s'.heap ∧ (∀ b ∈ fp, H' b = none) ∧ W i n σ' H') (fun n s3 hI => ?_) m0 ⟨0, σ, H, I, st, fun b hb => (f2 b hb).1, w0⟩
  rw [hu, hden]
  refine wpAny_noted ?_
  rw [heq]
  obtain ⟨i, σ3, H3, I3, st3, fr3, w3⟩ := hI
  refine wpAny_bind (wpAny_standAt (wpAny_bind ?_))
  rcases turn i n σ3 H3 w3 with ⟨stop, qn⟩ | ⟨go, N, hN, step⟩
  · refine no (thn (T.done X rfl rfl rfl hc i pins s3 σ3 H3 X.xe I3 (stat fr3) st3 stop) fun r s4 ⟨hr4, I4⟩ => ?_)
    subst hr4
    exact wpAny_pure (hR _ _ _ I4 qn)
  · refine no (thn (T.item X rfl rfl rfl hc i pins s3 σ3 H3 X.xe I3 (stat fr3) st3 go) fun r s4 ⟨u, hr4, h4⟩ => ?_)
    subst hr4
    refine wpAny_bind (no (thn h4 fun _ s5 ⟨x, H5, I5, r5, y5, st5, fr5⟩ => ?_))
    have I5' := I5.pinned (stat fr5) (T.obj _ _ st5)
    refine wpAny_bind (no (thn (hg _ s5 σ3 H5 x u _ I5' r5 (step x H5 y5)) fun _ s6 ⟨σ6, H6, I6, q6⟩ => ?_))
    have again : ∀ {σ7 : St} {H7 : Hp} {s7 : Shared}, Inv X (pins ++ pinsAt fp s5.heap) σ7 H7 s7 → N σ7 H7 → ∃ m, m < n ∧ ∃ i σ' H', Inv X pins σ' H' s7 ∧ tn i s7.heap ∧ (∀ b ∈ fp, H' b = none) ∧ W i m σ' H' := fun {σ7 H7 s7} I7 n7 => by
      obtain ⟨m', hm, w7⟩ := hN σ7 H7 n7
      refine ⟨m', hm, i + 1, σ7, H7, I7.unpinned, T.keep _ _ _ st5 fun b hb o e => (I7.pin (b, o) (List.mem_append_right _ (List.mem_append_right _ (mem_pinsAt hb e)))).1, fun b hb => ?_, w7⟩
      obtain ⟨o, e, dd⟩ := T.obj _ _ st5 b hb
      exact (I7.pin (b, o) (List.mem_append_right _ (List.mem_append_right _ (mem_pinsAt hb e)))).2.1
    refine wpAny_bind (no (thn (ht _ s6 σ6 H6 _ I6 q6) fun ok s7 ⟨H7, I7, q7⟩ => ?_))
    cases ok with
    | false =>
      rw [if_neg (by simp)] at q7
      exact wpAny_pure ⟨rfl, again I7 q7⟩
    | true =>
      rw [if_pos rfl] at q7
      refine wpAny_bind (no (thn (hr _ s7 σ6 H7 _ I7 q7) fun _ s8 ⟨σ8, H8, I8, q8⟩ => ?_))
      exact wpAny_pure ⟨rfl, again I8 q8⟩
end L2
namespace L2
open PySem PySem.Spec PyProof.Rows
def tApp (p : Addr) (te : TE) : TR := fun σ H N => te σ H fun v H5 => ∃ ys, H5 p = some (.lst ys) ∧ ys.length < sizeLine ∧ N σ (upd H5 p (.lst (ys ++ [v])))
theorem pr_app {X : Cx} {elt : Expr} {te : TE} {p : Addr} (he : PE X elt te) : PR X (do let _ ← call (.builtin "list.append") [.ref p, ← eval elt X.env]) (tApp p te) := by
  intro pins s σ H N I h
  refine wpAny_bind (thn (he pins s σ H _ I h) fun u s1 ⟨v, H1, I1, r1, ys, hp, hl, q1⟩ => ?_)
  refine wpAny_bind (thn (mt_append pins s1 σ H1 (.ref p) [v] _ [u] (fun _ H2 => N σ H2) I1 rfl (.cons r1 .nil) ⟨p, ys, v, rfl, rfl, hp, hl, q1⟩) fun _ s2 ⟨_, H2, I2, _, q2⟩ => ?_)
  exact wpAny_pure ⟨σ, H2, I2, q2⟩
def capSt (σ : St) : List (Option Nat) → St
  | [] => []
  | none :: js => none :: capSt σ js
  | some j :: js => (σ[j]?).join :: capSt σ js
def CapsOk (X : Cx) (sc : Scope) : List Str → List (Option Nat) → Prop
  | [], [] => True
  | _ :: xs, none :: js => CapsOk X sc xs js
  | x :: xs, some j :: js => X.N[j]? = some x ∧ Vis X.env.scope x ∧ sc.names.lookup x = some .free ∧ CapsOk X sc xs js
  | _, _ => False
theorem CapsOk.len {X : Cx} {sc : Scope} {σ : St} : ∀ {N' : List Str} {js : List (Option Nat)}, CapsOk X sc N' js → (capSt σ js).length = N'.length
  | [], [], _ => rfl
  | _ :: xs, none :: js, h => by simp only [capSt, List.length_cons]; rw [CapsOk.len (N' := xs) (js := js) h]
  | x :: xs, some j :: js, h => by simp only [capSt, List.length_cons]; rw [CapsOk.len (N' := xs) (js := js) h.2.2.2]
  | [], _ :: _, h => by cases h
  | _ :: _, [], h => by cases h
theorem CapsOk.get {X : Cx} {sc : Scope} {σ : St} : ∀ {N' : List Str} {js : List (Option Nat)} {i : Nat} {x : Str} {v : V}, CapsOk X sc N' js → N'[i]? = some x → (capSt σ js)[i]? = some (some v) →
    ∃ j : Nat, X.N[j]? = some x ∧ σ[j]? = some (some v) ∧ Vis X.env.scope x ∧ sc.names.lookup x = some .free
  | [], [], i, x, v, _, h1, _ => by simp at h1
  | y :: xs, none :: js, 0, x, v, h, h1, h2 => by simp [capSt] at h2
  | y :: xs, none :: js, i + 1, x, v, h, h1, h2 => CapsOk.get (N' := xs) (js := js) (i := i) h (by simpa using h1) (by simpa [capSt] using h2)
  | y :: xs, some j :: js, 0, x, v, h, h1, h2 => by
    have e1 : y = x := by simpa using h1
    subst e1
    refine ⟨j, h.1, ?_, h.2.1, h.2.2.1⟩
    have e2 : (σ[j]?).join = some v := by simpa [capSt] using h2
    cases q : σ[j]? with
    | none => rw [q] at e2; cases e2
    | some o => rw [q] at e2; exact congrArg some e2
  | y :: xs, some j :: js, i + 1, x, v, h, h1, h2 => CapsOk.get (N' := xs) (js := js) (i := i) h.2.2.2 (by simpa using h1) (by simpa [capSt] using h2)
  | [], _ :: _, _, _, _, h, _, _ => by cases h
  | _ :: _, [], _, _, _, h, _, _ => by cases h
def tComp (js : List (Option Nat)) (wi : TI) (g : TG) (tt : TT) (te : TE) : TE := fun σ H Q => wi σ H fun J H1 => ∀ p, H1 p = none → tLoop J g tt (tApp p te) (fun _ H' => Q (.ref p) H') (capSt σ js) (upd H1 p (.lst []))
section
variable {X : Cx} {elt tg iter : Expr} {ifs : List Expr} {sc : Scope} {pos : Pos} {N' : List Str} {js : List (Option Nat)} {wi : TI} {g : TG} {tt : TT} {te : TE}
theorem comp1_block (hc : X.calm = true) (B : BlkOk X sc) (C : CapsOk X sc N' js) {cl : List (Str × Addr)}
    (c1 : ∀ x c, cl.lookup x = some c → X.env.cells.lookup x = some c) (c2 : ∀ x ∈ sc.names, x.2 = .free → ∃ c, cl.lookup x.1 = some c)
    (hg : ∀ cl s H fp, PG (X.blk sc cl N' s H fp) tg g) (ht : ∀ cl s H fp, PTs (X.blk sc cl N' s H fp) ifs tt) (he : ∀ cl s H fp, PE (X.blk sc cl N' s H fp) elt te)
    {pins : List (Addr × Obj)} {σ : St} {H : Hp} {s : Shared} {Qe : Addr → Hp → Prop} {it : Addr} {fp : List Addr} {tn : Nat → Heap → Prop} {J : It} {RR : Value → Addr → Result → Shared → Prop}
    (I : Inv X pins σ H s) (T : Turn X.prog X.w X.K tg J fp it tn) (st : tn 0 s.heap) (hf : ∀ b ∈ fp, FpOk X pins H b)
    (h : ∀ p, H p = none → tLoop J g tt (tApp p te) (fun _ H' => Qe p H') (capSt σ js) (upd H p (.lst [])))
    (hRR : ∀ p C s' H', C ≠ p → (∀ b o, s.heap.get? b = some o → b ≠ C) → H' C = none → (∃ m, s'.heap.Ns C m) → Qe p H' → (∀ h'', Heap.SameBut C s'.heap h'' → Inv X pins σ H' { s' with heap := h'' }) → FpOk X pins H' C → RR (.ref p) C (.ok .next) s') :
    wpAny (model X.prog X.w) X.A (newList []) (fun acc s₃ => wpAny (model X.prog X.w) X.A (newFunctionEnv sc X.env.globals cl [] X.env.qual none .none (some X.env)) (fun cenv s₄ =>
      codeAny (model X.prog X.w) X.A (.compStart (.ListComp elt [⟨tg, iter, ifs, 0⟩] sc pos) 0 (.ref it) acc { cenv with scope := relabel sc X.env }) (RR acc cenv.locals) s₄) X.xe s₃) X.xe s := by
  refine wpAny_newObj_type ?_
  have I3 := I.lnew (ys := []) (its := []) (t' := s.toks) .nil (by simp)
  generalize hs3 : ({ s with heap := s.heap.push { cls := .type "list", data := .seq ([] : List Value).toArray }, toks := s.toks } : Shared) = s3 at I3
  have hp : H s.heap.objs.size = none := I.fresh
  have h3 := h _ hp
  have f3 : ∀ b ∈ fp, FpOk X pins (upd H s.heap.objs.size (.lst [])) b ∧ b < s3.heap.objs.size := fun b hb => by
    obtain ⟨f0, f1⟩ := hf b hb
    obtain ⟨o, e, _⟩ := T.obj _ _ st b hb
    have lt := Heap.lt_size e
    refine ⟨⟨by rw [upd_ne (Nat.ne_of_lt lt)]; exact f0, f1⟩, ?_⟩
    rw [← hs3]
    show b < (s.heap.push _).objs.size
    rw [Heap.size_push]
    exact Nat.lt_succ_of_lt lt
  have hsz : s3.heap.objs.size = s.heap.objs.size + 1 := by rw [← hs3]; exact Heap.size_push ..
  have hst3 : tn 0 s3.heap := by rw [← hs3]; exact T.keep _ _ _ st fun b hb o e => Heap.get?_push_of_some _ e
  refine wpAny_newFunctionEnv B.nocell (by intro y hy; simp at hy) (fun h₁ hns₁ hsb₁ => ?_) B.kind
  have J4 := blk_start (cl := cl) (N' := N') (σ' := capSt σ js) (tk := s3.toks + ([] : List (Str × Value)).length) I3 B c1 c2 f3 C.len (fun i x v e1 e2 _ => C.get e1 e2) (show h₁.Ns s3.heap.objs.size (fun _ => none) from hns₁) (show Heap.SameBut s3.heap.objs.size (s3.heap.push { cls := .type "dict", data := .dict #[] }) h₁ from hsb₁)
  have hst4 : tn 0 h₁ := T.keep _ _ _ hst3 fun b hb o e => (hsb₁.2 b (Nat.ne_of_lt (Heap.lt_size e))).trans (Heap.get?_push_of_some _ e)
  have f4 : ∀ b ∈ fp, FpOk (X.blk sc cl N' s3 (upd H s.heap.objs.size (.lst [])) fp) [] (upd H s.heap.objs.size (.lst [])) b := fun b hb => by
    obtain ⟨⟨g0, g1, g2, g3, g4, g5⟩, lt⟩ := f3 b hb
    refine ⟨g0, Nat.ne_of_lt lt, fun z => ?_, .inl hb, fun x c e => g4 x c (c1 x c e), fun p hp => absurd (show p ∈ ([] : List (Addr × Obj)) from hp) (by simp)⟩
    rcases List.mem_cons.mp (I3.stkSub b z) with z | z
    · exact g1 z
    · exact g2 z
  have loop : codeAny (model X.prog X.w) X.A (.compLoop (.ListComp elt [⟨tg, iter, ifs, 0⟩] sc pos) 0 (.ref it) (.ref s.heap.objs.size) (compEnvC sc cl s3.heap.objs.size X.env)) (RR (.ref s.heap.objs.size) s3.heap.objs.size) { s3 with heap := h₁, toks := s3.toks + ([] : List (Str × Value)).length } := by
    refine comp_loop (X := X.blk sc cl N' s3 (upd H s.heap.objs.size (.lst [])) fp) rfl hc (compTurn_list ..) rfl rfl rfl (hg _ _ _ _) (ht _ _ _ _) (pr_app (he _ _ _ _)) T J4 hst4 f4 h3 fun s' σ' H' J' q => ?_
    have hend : ∀ h'', Heap.SameBut s3.heap.objs.size s'.heap h'' → Inv X pins σ H' { s' with heap := h'' } := fun h'' hs'' => blk_end I3 f3 J' hs''
    obtain ⟨m, hn, _⟩ := J'.loc
    refine hRR _ _ _ H' (by rw [hsz]; exact Nat.succ_ne_self _) (fun b o e => ?_) J'.free ⟨m, hn⟩ q hend (I3.fpOk (Nat.le_refl _) J'.free)
    rw [hsz]
    exact Nat.ne_of_lt (Nat.lt_succ_of_lt (Heap.lt_size e))
  exact codeAny_compStart_list loop (T.self _ 0 _ _ _ hst4 loop)
theorem pe_comp1 (hE : X.xe = fun _ _ => False) (hc : X.calm = true) (B : BlkOk X sc) (C : CapsOk X sc N' js) (hi : PI X tg iter wi) (hg : ∀ cl s H fp, PG (X.blk sc cl N' s H fp) tg g) (ht : ∀ cl s H fp, PTs (X.blk sc cl N' s H fp) ifs tt) (he : ∀ cl s H fp, PE (X.blk sc cl N' s H fp) elt te)
    (hs : ∀ x, foldedSetIterable iter X.env x = pure x := by intro _; rfl) : PE X (.ListComp elt [⟨tg, iter, ifs, 0⟩] sc pos) (tComp js wi g tt te) := by
  intro pins s σ H Q I h
  obtain ⟨cl, hcl, c1, c2⟩ := closure_ok X.env sc fun x hx hfr => I.ok.has x.1 (.inl (B.free x hx hfr))
  rw [eval_ListComp]
  refine wpAny_comprehension_free (use := none) rfl hs hcl B.kind B.names (thn (hi pins s σ H _ I h) fun v s1 h1 => thn h1 fun itv s2 h2 => ?_)
  obtain ⟨it, fp, tn, J, H2, e, I2, T, st2, f2, h2⟩ := h2
  subst e
  refine comp1_block (Qe := fun p H' => Q (.ref p) H') (RR := fun acc C => compPost (model X.prog X.w) X.A X.xe none (EP X pins σ Q) acc C) hc B C c1 c2 hg ht he I2 T st2 f2 h2 ?_
  intro p C s' H' hne hold hfree hns q hend _
  obtain ⟨m, hn⟩ := hns
  exact ⟨m, hn, fun h'' hs'' => ⟨.ref p, H', hend h'' hs'', rfl, q⟩⟩
def tSetComp (i : Nat) (js : List (Option Nat)) (wi : TI) (g : TG) (tt : TT) (te : TE) : TS := fun D σ H => tComp js wi g tt te σ H fun v H' => D.nx (σ.set i (some v)) H'
theorem ps_setcomp1 {i : Nat} {y : Str} {py spos : Pos} (hE : X.xe = fun _ _ => False) (hc : X.calm = true) (hN : X.N.Nodup) (hi' : X.N[i]? = some y) (hx : Loc X.env.scope y) (B : BlkOk X sc) (C : CapsOk X sc N' js) (hi : PI X tg iter wi) (hg : ∀ cl s H fp, PG (X.blk sc cl N' s H fp) tg g) (ht : ∀ cl s H fp, PTs (X.blk sc cl N' s H fp) ifs tt) (he : ∀ cl s H fp, PE (X.blk sc cl N' s H fp) elt te)
    (hsw : swapsWith (.ListComp elt [⟨tg, iter, ifs, 0⟩] sc pos) (some (.Name y py)) spos.line X.env = pure true := by rfl)
    (hs : ∀ x, foldedSetIterable iter X.env x = pure x := by intro _; rfl) (hf : X.fn y = true ∨ X.env.scope.names.lookup y = some .local := by first | exact .inl rfl | exact .inr rfl | assumption) : PS X (.Assign [.Name y py] (.ListComp elt [⟨tg, iter, ifs, 0⟩] sc pos) spos) (tSetComp i js wi g tt te) := by
  intro pins s σ H D I h
  obtain ⟨cl, hcl, c1, c2⟩ := closure_ok X.env sc fun x hx hfr => I.ok.has x.1 (.inl (B.free x hx hfr))
  rw [exec_Assign_Name_used _ _ _ _ hsw]
  refine wpAny_bind (wpAny_standAt (wpAny_bind ?_))
  show wpAny _ X.A (do let _ ← comprehension (.ListComp elt [⟨tg, iter, ifs, 0⟩] sc pos) sc X.env _ (newList []) false (eval iter X.env) (some (assign (.Name y py) X.env))) _ _ s
  refine wpAny_bind (thn (wpAny_comprehension_free (use := some (assign (.Name y py) X.env)) (Q := fun _ s' => SP X pins D .next s') rfl hs hcl B.kind B.names (thn (hi pins s σ H _ I h) fun v s1 h1 => thn h1 fun itv s2 h2 => ?_)) fun _ s' hq => wpAny_pure (wpAny_pure hq))
  obtain ⟨it, fp, tn, J, H2, e, I2, T, st2, f2, h2⟩ := h2
  subst e
  refine comp1_block (Qe := fun p H' => D.nx (σ.set i (some (.ref p))) H') (RR := fun acc C => compPost (model X.prog X.w) X.A X.xe (some (assign (.Name y py) X.env)) (fun _ s' => SP X pins D .next s') acc C) hc B C c1 c2 hg ht he I2 T st2 f2 h2 ?_
  intro p C s' H' hne hold hfree hns q hend fpC
  obtain ⟨m, hn⟩ := hns
  have I4 : Inv X pins σ H' s' := hend s'.heap (.refl ..)
  obtain ⟨f0, f1, f2', f3, f4, f5⟩ := fpC
  show wpAny _ X.A (assign (.Name y py) X.env (.ref p)) _ _ s'
  refine wpAny_assign_Name (store_ok2 (v := .ref p) I4 hN hi' hx rfl (fun s'' I5 ⟨a, hsa, ha⟩ => ?_) hf)
  have hCa : C ≠ a := by
    rcases ha with rfl | ha
    · exact f1
    · exact fun z => f4 y a ha z.symm
  refine ⟨m, hn.sameBut hsa hCa, fun h'' hs'' => ⟨_, H', I5.turned (t' := s''.toks) (it := C) (fun b o hb e => (hs''.2 b hb).trans e) f0 f1 f3 f4 f5, q⟩⟩
end
end L2
namespace L2
open PySem PySem.Spec PyProof.Rows
section
variable {X : Cx} {e : Expr} {tg : Expr} {sc : Scope} {N' : List Str} {js : List (Option Nat)}
end
end L2
namespace L2
open PySem PySem.Spec PyProof.Rows
section
variable {X : Cx}
def stAt (x y : Str) (k : Nat) : Bool := decide (k + y.length ≤ x.length) && Builtin.Str.subAt x y k
theorem mt_startswith : MtR X "str.startswith" (fun x vs H Q => ∃ a b, x = .str a ∧ vs = [.str b] ∧ Q (.bl (stAt a b 0)) H) := by
  intro pins s σ H x vs v us Q I rx rv h
  obtain ⟨a, b, rfl, rfl, q⟩ := h
  obtain ⟨t, rfl⟩ := rx
  obtain ⟨u, rfl, t', rfl⟩ := rv.one
  exact call_gives F.slot_str_startswith (typeIs_str s a t) F.entry_str_startswith (F.args_str_startswith_2 _ _) (gives_str_startswith a b t t') ⟨.bl _, H, I, rfl, q⟩
theorem mt_startswith_from : MtR X "str.startswith" (fun x vs H Q => ∃ a b k, x = .str a ∧ vs = [.str b, .int (k : Nat)] ∧ Q (.bl (stAt a b k)) H) := by
  intro pins s σ H x vs v us Q I rx rv h
  obtain ⟨a, b, k, rfl, rfl, q⟩ := h
  obtain ⟨t, rfl⟩ := rx
  obtain ⟨u, u2, rfl, ⟨t', rfl⟩, ⟨t2, rfl⟩⟩ := rv.two
  refine call_gives F.slot_str_startswith (typeIs_str s a t) F.entry_str_startswith (F.args_str_startswith_3 _ _ _) (gives_str_startswith_from a b k t t' t2) ?_
  have e : fromIndex a.length (k : Int) = k := by unfold fromIndex; rw [if_neg (by omega)]; omega
  rw [e]
  exact ⟨.bl _, H, I, rfl, q⟩
theorem call_isinst : CallR X (.builtin "isinstance") (fun xs H Q => ∃ x n t b, xs = [x, .ty n] ∧ TyOf X.K H x t ∧ PySem.W.kitOne X.K t (.type n) = some b ∧ Q (.bl b) H) := by
  intro pins s σ H xs us Q I r h
  obtain ⟨x, n, t, b, rfl, ty, e, q⟩ := h
  obtain ⟨u, u2, rfl, ru, rt⟩ := vals2 r
  cases rt
  exact isinst_ok I ru ty e fun tk => ⟨.bl b, H, I.tok tk, rfl, q⟩
end
end L2
namespace L2
open PySem PySem.Spec PyProof.Rows
section
variable {X : Cx} {e : Expr} {tg : Expr} {sc : Scope} {N' : List Str} {js : List (Option Nat)}
end
end L2
namespace L2
open PySem PySem.Spec PyProof.Rows
def ddS (acc : List Str) (x : Str) : List Str := if x ∈ acc then acc else acc ++ [x]
def dd (xs : List Str) : List Str := xs.foldl ddS []
theorem dd_snoc (xs : List Str) (x : Str) : dd (xs ++ [x]) = ddS (dd xs) x := by unfold dd; rw [List.foldl_append]; rfl
theorem mem_ddS {acc : List Str} {x k : Str} : k ∈ ddS acc x ↔ k ∈ acc ∨ k = x := by
  unfold ddS
  split
  · constructor
    · exact .inl
    · rintro (h | rfl)
      · exact h
      · assumption
  · simp
theorem mem_foldl {xs : List Str} : ∀ {acc : List Str} {k : Str}, k ∈ xs.foldl ddS acc ↔ k ∈ acc ∨ k ∈ xs := by
  induction xs with
  | nil => intro acc k; simp
  | cons x r ih =>
    intro acc k
    rw [List.foldl_cons, ih, mem_ddS]
    simp only [List.mem_cons]
    constructor
    · rintro ((h | h) | h)
      · exact .inl h
      · exact .inr (.inl h)
      · exact .inr (.inr h)
    · rintro (h | h | h)
      · exact .inl (.inl h)
      · exact .inl (.inr h)
      · exact .inr h
theorem mem_dd {xs : List Str} {k : Str} : k ∈ dd xs ↔ k ∈ xs := by unfold dd; rw [mem_foldl]; simp
theorem len_ddS (acc : List Str) (x : Str) : (ddS acc x).length = if x ∈ acc then acc.length else acc.length + 1 := by
  unfold ddS
  split <;> simp
theorem len_foldl : ∀ (xs acc : List Str), (xs.foldl ddS acc).length ≤ acc.length + xs.length ∧ ((xs.foldl ddS acc).length = acc.length + xs.length ↔ (xs.Nodup ∧ ∀ x ∈ xs, x ∉ acc))
  | [], acc => by simp
  | x :: r, acc => by
    obtain ⟨h1, h2⟩ := len_foldl r (ddS acc x)
    rw [List.foldl_cons]
    have h3 := len_ddS acc x
    simp only [List.length_cons]
    by_cases hx : x ∈ acc
    · rw [if_pos hx] at h3
      refine ⟨by omega, ⟨fun h => by omega, fun ⟨_, h⟩ => absurd hx (h x List.mem_cons_self)⟩⟩
    · rw [if_neg hx] at h3
      refine ⟨by omega, ?_⟩
      constructor
      · intro h
        obtain ⟨a, b⟩ := h2.mp (by omega)
        refine ⟨List.nodup_cons.mpr ⟨fun hm => b x hm (mem_ddS.mpr (.inr rfl)), a⟩, fun y hy => ?_⟩
        rcases List.mem_cons.mp hy with rfl | hy
        · exact hx
        · exact fun hm => b y hy (mem_ddS.mpr (.inl hm))
      · rintro ⟨a, b⟩
        obtain ⟨a1, a2⟩ := List.nodup_cons.mp a
        have := h2.mpr ⟨a2, fun y hy hm => by
          rcases mem_ddS.mp hm with h | h
          · exact b y (List.mem_cons_of_mem _ hy) h
          · exact a1 (h ▸ hy)⟩
        omega
theorem dd_len (xs : List Str) : (dd xs).length ≤ xs.length := by have := (len_foldl xs []).1; simpa [dd] using this
theorem dd_all (xs : List Str) : (dd xs).length = xs.length ↔ xs.Nodup := by
  have := (len_foldl xs []).2
  simpa [dd] using this
def setL (P : Program) (w : World) (p : Addr) (xs : List Str) : HO := .ext fun h => h.SetOf (strKind P w) p (fun k => decide (k ∈ xs)) (dd xs).length
theorem setL_ok {P : Program} {w : World} {H : Hp} {h : Heap} {p : Addr} {xs : List Str} (hS : h.SetOf (strKind P w) p (fun k => decide (k ∈ xs)) (dd xs).length) : ObjOk P w H h p (setL P w p xs) := by
  refine ⟨hS, ?_, fun h1 h2 q k => ?_⟩
  · obtain ⟨o, _, _, _, e, _⟩ := hS
    exact ⟨o, e⟩
  · obtain ⟨o, es, ep, t, e, r⟩ := q
    exact ⟨o, es, ep, t, k o e, r⟩
theorem setL_add (xs : List Str) (x : Str) : (fun k => decide (k ∈ xs) || decide (k = x)) = fun k => decide (k ∈ xs ++ [x]) := by
  funext k
  rw [Bool.eq_iff_iff]
  simp
theorem setL_len (xs : List Str) (x : Str) : (if decide (x ∈ xs) = true then (dd xs).length else (dd xs).length + 1) = (dd (xs ++ [x])).length := by
  rw [dd_snoc, len_ddS]
  by_cases h : x ∈ xs
  · rw [if_pos (decide_eq_true h), if_pos (mem_dd.mpr h)]
  · rw [if_neg (by simp [h]), if_neg (fun z => h (mem_dd.mp z))]
section
variable {X : Cx}
theorem call_len_setL : CallR X (.builtin "len") (fun vs H Q => ∃ p xs, vs = [.ref p] ∧ H p = some (setL X.prog X.w p xs) ∧ Q (.int (dd xs).length) H) := by
  intro pins s σ H vs us Q I r h
  obtain ⟨p, xs, rfl, hp, q⟩ := h
  obtain ⟨u, rfl, ru⟩ := vals1 r
  cases ru
  obtain ⟨hS, _, _⟩ := I.hok p _ hp
  obtain ⟨o, es, ep, t, e, hex, hd, _, _, hb, hf, hn⟩ := (show s.heap.SetOf (strKind X.prog X.w) p (fun k => decide (k ∈ xs)) (dd xs).length from hS)
  refine call_len_set e hex hd hf (by unfold scanBound at hb; omega) ?_
  rw [hn]
  exact ⟨.int _, H, I.tok _, ⟨_, rfl⟩, q⟩
end
end L2
namespace L2
open PySem PySem.Spec PyProof.Rows
theorem upd_loopT {P : Program} {w : World} {A : Around} {R : Result → Shared → Prop} {I S l : Addr} {its : List Value} {xs : List Str} (hh : A.in1.handled = none) (hlI : l ≠ I) (hSI : S ≠ I) (hSl : S ≠ l) (hv : ∀ (i : Nat) v, its[i]? = some v → ∃ x t, xs[i]? = some x ∧ v = .str x t) (hlen : its.length = xs.length) (hb : xs.length + 1 < scanBound) :
    ∀ (k i : Nat) (s : Shared), xs.length - i = k → i ≤ xs.length → s.heap.IsListIter I l i → s.heap.IsList l its.toArray → s.heap.SetOf (PySem.strKind P w) S (fun k' => decide (k' ∈ xs.take i)) (dd (xs.take i)).length →
      (∀ h' tk, (∀ b o, b ≠ S → b ≠ I → s.heap.get? b = some o → h'.get? b = some o) → h'.SetOf (PySem.strKind P w) S (fun k' => decide (k' ∈ xs)) (dd xs).length → R (.ok (.ret .none)) { s with heap := h', toks := tk }) →
      codeAny (model P w) A (.builtin "set.update.loop" ⟨[.ref S, .ref I], []⟩) R s := by
  intro k
  induction k with
  | zero =>
    intro i s hk hi it ls hS hR
    have e : i = xs.length := by omega
    subst e
    refine codeAny_builtin PyProof.Rows.F.entry_set_update_loop ?_
    rw [Around.under_plainId PyProof.Rows.F.plain_set_update_loop _]
    show wpAny _ A.in1 (pyNext (.ref I) >>= _) _ _ s
    refine wpAny_bind (wpAny_pyNext_list_end hh it ls (by simp [hlen]) fun h' eb => ?_)
    show wpAny _ A.in1 (ret Value.none) _ _ _
    refine wpAny_pure (hR h' s.toks (fun b o _ h2 e => eb b o h2 e) ?_)
    rw [List.take_length] at hS
    obtain ⟨o, es, ep, t, ho, rest⟩ := hS
    exact ⟨o, es, ep, t, eb S o hSI ho, rest⟩
  | succ k ih =>
    intro i s hk hi it ls hS hR
    have lt : i < xs.length := by omega
    have lt' : i < its.length := by omega
    refine codeAny_builtin PyProof.Rows.F.entry_set_update_loop ?_
    rw [Around.under_plainId PyProof.Rows.F.plain_set_update_loop _]
    show wpAny _ A.in1 (pyNext (.ref I) >>= _) _ _ s
    refine wpAny_bind (wpAny_pyNext_list_item it ls (x := its[i]) (by simp [lt']) fun h' it' sb => ?_)
    obtain ⟨x, t, hx, ev⟩ := hv i its[i] (by simp [lt'])
    rw [ev]
    have hS1 : h'.SetOf (PySem.strKind P w) S (fun k' => decide (k' ∈ xs.take i)) (dd (xs.take i)).length := by
      obtain ⟨o, es, ep, tb, ho, rest⟩ := hS
      exact ⟨o, es, ep, tb, (sb.2 S hSI).trans ho, rest⟩
    have ls1 : h'.IsList l its.toArray := ls.extBut sb.extBut hlI
    show wpAny _ A.in1 (holding [Value.str x t] (setAdd S (.str x t)) >>= _) _ _ { s with heap := h' }
    refine wpAny_bind (wpAny_holding ?_)
    unfold setAdd
    refine wpAny_holding ?_
    have hkey : (PySem.strKind P w).is x (.str x t) = true := by simp [PySem.strKind, Value.isStrOf]
    refine wpAny_bind ((PySem.strKind P w).pyHash hkey ?_)
    have hroom : (dd (xs.take i)).length + 1 < scanBound := by
      have := dd_len (xs.take i)
      rw [List.length_take] at this
      omega
    refine wpAny_setAddHashed_of (knd := PySem.strKind P w) (s := { s with heap := h', toks := s.toks + 1 }) hkey rfl hS1 hroom fun h2 sb2 hS2 => ?_
    have et : xs.take i ++ [x] = xs.take (i + 1) := by rw [List.take_add_one, hx]; rfl
    have hS3 : h2.SetOf (PySem.strKind P w) S (fun k' => decide (k' ∈ xs.take (i + 1))) (dd (xs.take (i + 1))).length := by
      rw [← et]
      exact SetOf_congr hS2 (fun k' => congrFun (setL_add (xs.take i) x) k') (setL_len (xs.take i) x)
    refine wpAny_pure ⟨plainId_quiet PyProof.Rows.F.plain_set_update_loop _, ih (i + 1) _ (by omega) lt (it'.extBut sb2.extBut (Ne.symm hSI)) (ls1.extBut sb2.extBut (Ne.symm hSl)) hS3 fun h3 tk q hS4 => ?_⟩
    exact hR h3 tk (fun b o h1 h2' e => q b o h1 h2' ((sb2.2 b h1).trans ((sb.2 b h2').trans e))) hS4
end L2
namespace L2
open PySem PySem.Spec PyProof.Rows
section
variable {prog : Program} {w : World} {A : Around} {E : Value → Shared → Prop} {s : Shared}
set_option maxHeartbeats 3200000 in
theorem set_of_texts {l : Addr} {its : List Value} {xs : List Str} {Q : Value → Shared → Prop} (hh : A.handled = none) (hl : s.heap.IsList l its.toArray)
    (hv : ∀ (i : Nat) v, its[i]? = some v → ∃ x t, xs[i]? = some x ∧ v = .str x t) (hlen : its.length = xs.length) (hb : xs.length + 1 < scanBound)
    (h : ∀ (h' : Heap) (tk : Nat), h'.SetOf (PySem.strKind prog w) s.heap.objs.size (fun k' => decide (k' ∈ xs)) (dd xs).length →
      (∀ b o, s.heap.get? b = some o → h'.get? b = some o) → Q (.ref s.heap.objs.size) { s with heap := h', toks := tk }) :
    wpAny (model prog w) A (call (.type "set") [.ref l]) Q E s := by
  obtain ⟨c, tl, hmro⟩ := F.called_set.mro
  have hmade := F.called_set.made
  have hsub := F.called_set.sub
  refine wpAny_call (codeAny_of_tree ?_)
  show wpAny _ _ (callAny (.type "set") _) _ _ _
  refine wpAny_pure ⟨Code.quiet_builtin _ (by decide +kernel), codeAny_builtin F.entry_type_call ?_⟩
  rw [Around.under_plain (weight_type_call_type "set" [.ref l] []) rfl]
  have h1 := F.called_set.notType
  have h2 := F.called_set.canCreate
  have hct := F.typeCall_set_1 (.ref l)
  repeat (any_goals (first | assumption | wp_step))
  refine codeAny_mono (code_set_new_1 (.ref l) (E := E) (Q₁ := fun obj s₁ => ∃ led : Bool, obj = .ref s.heap.objs.size ∧ s₁ = { s with heap := s.heap.push { cls := .type "set", dict := none, data := .set #[] 0 (.fresh 0 0 led) } }) fun led => ⟨led, rfl, rfl⟩) fun r s₁ hr => ?_
  cases r with
  | error e => exact hr
  | ok fl =>
    cases fl with
    | ret obj =>
      obtain ⟨led, rfl, rfl⟩ := hr
      generalize hH1 : s.heap.push { cls := .type "set", dict := none, data := .set #[] 0 (.fresh 0 0 led) } = H1
      have hS : H1.get? s.heap.objs.size = some { cls := .type "set", dict := none, data := .set #[] 0 (.fresh 0 0 led) } := by rw [← hH1]; exact Heap.get?_push_size _ rfl
      have hold : ∀ b o, s.heap.get? b = some o → H1.get? b = some o := fun b o e => by rw [← hH1]; exact Heap.get?_push_of_some _ e
      have hsz : H1.objs.size = s.heap.objs.size + 1 := by rw [← hH1]; exact Heap.size_push ..
      have hT : Shared.TypeIs { s with heap := H1 } (.ref s.heap.objs.size) "set" := ⟨_, hS, rfl⟩
      have hli := F.called_set.init.lookup
      have hbi := F.called_set.init.bind (.ref s.heap.objs.size)
      repeat (any_goals (first | assumption | wp_step))
      refine codeAny_mono (codeAny_call_builtin (R := wants (fun r s₂ => r = .none ∧ ∃ h' tk, s₂ = { s with heap := h', toks := tk } ∧
          h'.SetOf (PySem.strKind prog w) s.heap.objs.size (fun k' => decide (k' ∈ xs)) (dd xs).length ∧ (∀ b o, s.heap.get? b = some o → h'.get? b = some o)) E) F.called_set.init.plain F.entry_set_init (check_set_init_1 hT ?_)) fun r₂ s₂ hr₂ => ?_
      · obtain ⟨ol, hol, hcl, nl, hdl⟩ := hl
        obtain ⟨ocls, odict, odata, oslots⟩ := ol
        simp only at hcl hdl
        subst hcl; subst hdl
        have hol' := hold _ _ hol
        have hsls := F.sub_list_set
        have hslf := F.sub_list_frozenset
        have hne : (Value.type "list" == Value.type "dict") = false := by decide
        have hl1 : H1.IsList l its.toArray := ⟨_, hol', rfl, nl, rfl⟩
        unfold Builtin.«set.__init__» noKeywords Builtin.Frozenset.updateFrom
        generalize hPI : pyIter = PI
        wp_walk
        subst hPI
        refine wpAny_pyIter_list hl1 ?_
        refine wpAny_bind (wpAny_runValue ?_)
        have hlS : l < s.heap.objs.size := Heap.lt_size hol
        have hh3 : A.in1.in1.in1.handled = none := by simp [hh]
        refine upd_loopT (P := prog) (w := w) (l := l) (its := its) (xs := xs) hh3 (by rw [hsz]; exact Nat.ne_of_lt (Nat.lt_succ_of_lt hlS)) (by rw [hsz]; exact Nat.ne_of_lt (Nat.lt_succ_self _)) (Nat.ne_of_gt hlS) hv hlen hb xs.length 0 _ (by omega) (Nat.zero_le _) ⟨_, Heap.get?_push_size _ rfl, rfl, rfl⟩ (hl1.push _) ?hS0 ?hR
        case hS0 =>
          exact SetOf_congr ((setObjOf_fresh (knd := PySem.strKind prog w) led).setOf (Heap.get?_push_of_some _ hS) (by unfold scanBound; omega)) (fun _ => by simp) rfl
        case hR =>
          intro h' tk' hk hS'
          show wpAny _ _ _ _ _ _
          refine wpAny_pure ?_
          show wpAny _ _ (ret Value.none) _ _ _
          refine wpAny_pure ⟨rfl, h', tk', rfl, hS', fun b o e => ?_⟩
          have lt := Heap.lt_size e
          exact hk b o (Nat.ne_of_lt lt) (by rw [hsz]; exact Nat.ne_of_lt (Nat.lt_succ_of_lt lt)) (Heap.get?_push_of_some _ (hold b o e))
      · cases r₂ with
        | error e => exact hr₂
        | ok fl₂ =>
          cases fl₂ with
          | ret r =>
            obtain ⟨rfl, h', tk, rfl, hS', hk'⟩ := hr₂
            repeat (any_goals (first | assumption | wp_step))
            exact h _ _ hS' hk'
          | _ => exact hr₂.elim
    | _ => exact hr.elim
end
theorem vals_strs : ∀ {xs : List Str} {us : List Value}, Vals (xs.map V.str) us → us.length = xs.length ∧ ∀ (i : Nat) v, us[i]? = some v → ∃ x t, xs[i]? = some x ∧ v = .str x t
  | [], _, .nil => ⟨rfl, fun i v e => by simp at e⟩
  | x :: xs, _, .cons r t => by
    obtain ⟨h1, h2⟩ := vals_strs (xs := xs) t
    obtain ⟨tk, rfl⟩ := r
    refine ⟨by simp [h1], fun i v e => ?_⟩
    cases i with
    | zero => simp at e; exact ⟨x, tk, by simp, e.symm⟩
    | succ i => simpa using h2 i v (by simpa using e)
theorem call_set_texts {X : Cx} (hc : X.calm = true) : CallR X (.type "set") (fun vs H Q => ∃ p xs, vs = [.ref p] ∧ SqL X.K H p (xs.map V.str) ∧ xs.length + 1 < scanBound ∧ ∀ q, H q = none → Q (.ref q) (upd H q (setL X.prog X.w q xs))) := by
  intro pins s σ H vs us Q I r h
  obtain ⟨p, xs, rfl, hq, hb, q⟩ := h
  obtain ⟨u, rfl, ru⟩ := vals1 r
  cases ru
  obtain ⟨its, rv, pl, hz⟩ := I.list hq
  obtain ⟨h1, h2⟩ := vals_strs rv
  refine set_of_texts (I.ok.hd hc) pl.isList h2 h1 hb fun h' tk hS hk => ?_
  exact ⟨.ref _, _, I.laid (t' := tk) hk (Nat.le_refl _) (setL_ok hS), rfl, q _ I.fresh⟩
end L2
namespace L2
open PySem PySem.Spec PyProof.Rows
def SameX (p : Addr) (H H' : Hp) : Prop := ∀ b o, b ≠ p → H b = some o → H' b = some o
theorem SameX.refl {p : Addr} {H : Hp} : SameX p H H := fun _ _ _ e => e
theorem SameX.trans {p : Addr} {H H1 H2 : Hp} (a : SameX p H H1) (b : SameX p H1 H2) : SameX p H H2 := fun c o n e => b c o n (a c o n e)
theorem SameX.upd {p : Addr} {H H' : Hp} {o : HO} (a : SameX p H H') : SameX p H (upd H' p o) := fun c u n e => by rw [upd_ne n]; exact a c u n e
theorem Same.x {p : Addr} {H H' : Hp} (a : Same H H') : SameX p H H' := fun c o _ e => a c o e
theorem Same.new {H : Hp} {p : Addr} {o : HO} (h : H p = none) : Same H (upd H p o) := fun b u e => by rw [upd_ne (ne_of_none e h)]; exact e
structure ItOk (J : It) (n : Nat) (item : Nat → V) (H0 : Hp) (p : Addr) : Prop where
  go : ∀ i H, i < n → SameX p H0 H → J.go i H
  stop : ∀ H, SameX p H0 H → J.stop n H
  yld : ∀ i H x H', i < n → SameX p H0 H → J.yld i H x H' → H' = H ∧ x = item i
theorem itok_tup {K : PySem.W.Frag} {a p : Addr} {xs : List V} {H0 : Hp} (h : H0 a = some (.tup xs)) (hp : a ≠ p) : ItOk (Itt K a) xs.length (fun i => xs.getD i .non) H0 p where
  go := fun i H hi k => ⟨xs, xs[i], SqT.of (k a _ hp h), by simp [hi]⟩
  stop := fun H k => ⟨xs, SqT.of (k a _ hp h), Nat.le_refl _⟩
  yld := fun i H v H' hi k ⟨e, q⟩ => ⟨e, by
    have := q xs (SqT.of (k a _ hp h))
    rw [List.getD_eq_getElem?_getD, this]; rfl⟩
theorem itok_lst {K : PySem.W.Frag} {a p : Addr} {xs : List V} {H0 : Hp} (h : H0 a = some (.lst xs)) (hp : a ≠ p) : ItOk (Itl K a) xs.length (fun i => xs.getD i .non) H0 p where
  go := fun i H hi k => ⟨xs, xs[i], SqL.of (k a _ hp h), by simp [hi]⟩
  stop := fun H k => ⟨xs, SqL.of (k a _ hp h), Nat.le_refl _⟩
  yld := fun i H v H' hi k ⟨e, q⟩ => ⟨e, by
    have := q xs (SqL.of (k a _ hp h))
    rw [List.getD_eq_getElem?_getD, this]; rfl⟩
def flatN (F : Nat → List V) : Nat → List V
  | 0 => []
  | i + 1 => flatN F i ++ F i
theorem loop_gen {J : It} {g : TG} {tt : TT} {tr : TR} {Qe : St → Hp → Prop} {σ0 : St} {H0 : Hp} {p : Addr} {cur : List V} {n : Nat} {item : Nat → V} (F : Nat → List V) (P : St → Prop) (hσ : P σ0) (hp : H0 p = some (.lst cur)) (ok : ItOk J n item H0 p)
    (turn : ∀ i σ H (N : St → Hp → Prop), i < n → P σ → SameX p H0 H → H p = some (.lst (cur ++ flatN F i)) → (∀ σ2 H4, P σ2 → SameX p H H4 → H4 p = some (.lst (cur ++ flatN F i ++ F i)) → N σ2 H4) →
      g (item i) σ H fun σ2 H2 => tt σ2 H2 fun b H3 => if b = true then tr σ2 H3 N else N σ2 H3)
    (hQ : ∀ σ H, P σ → SameX p H0 H → H p = some (.lst (cur ++ flatN F n)) → Qe σ H) : tLoop J g tt tr Qe σ0 H0 := by
  refine ⟨fun i m σ H => m = n - i ∧ i ≤ n ∧ P σ ∧ SameX p H0 H ∧ H p = some (.lst (cur ++ flatN F i)), ⟨n, rfl, Nat.zero_le _, hσ, .refl, by simpa [flatN] using hp⟩, ?_⟩
  rintro i m σ H ⟨rfl, hi, hP, hS, hH⟩
  by_cases hlt : i < n
  · refine .inr ⟨ok.go i H hlt hS, fun σ' H' => P σ' ∧ SameX p H0 H' ∧ H' p = some (.lst (cur ++ flatN F (i + 1))), fun σ' H' ⟨a, b, c⟩ => ⟨n - (i + 1), by omega, rfl, hlt, a, b, c⟩, fun x H' y => ?_⟩
    obtain ⟨rfl, rfl⟩ := ok.yld i H x H' hlt hS y
    refine turn i σ H' _ hlt hP hS hH fun σ2 H4 hP2 hS2 hH2 => ⟨hP2, hS.trans hS2, ?_⟩
    rw [hH2]
    simp only [flatN, List.append_assoc]
  · have e : i = n := by omega
    subst e
    exact .inl ⟨ok.stop H hS, hQ σ H hP hS hH⟩
theorem flatN_le {F : Nat → List V} {k : Nat} (h : ∀ i, (F i).length ≤ k) : ∀ n, (flatN F n).length ≤ n * k
  | 0 => by simp [flatN]
  | n + 1 => by
    have := flatN_le h n
    have h2 := h n
    simp only [flatN, List.length_append, Nat.succ_mul]
    omega
theorem loop_app {J : It} {g : TG} {tt : TT} {te : TE} {Qe : St → Hp → Prop} {σ0 : St} {H0 : Hp} {p : Addr} {cur : List V} {n : Nat} {item : Nat → V} (f : Nat → Option V) (P : St → Prop) (hσ : P σ0) (hp : H0 p = some (.lst cur)) (hsz : cur.length + n ≤ 100000) (ok : ItOk J n item H0 p)
    (turn : ∀ i σ H (C : Option V → St → Hp → Prop), i < n → P σ → SameX p H0 H → (∀ σ2 H4, P σ2 → Same H H4 → C (f i) σ2 H4) →
      g (item i) σ H fun σ2 H2 => tt σ2 H2 fun b H3 => if b = true then te σ2 H3 fun v H4 => C (some v) σ2 H4 else C none σ2 H3)
    (hQ : ∀ σ H, P σ → SameX p H0 H → H p = some (.lst (cur ++ flatN (fun i => (f i).toList) n)) → Qe σ H) : tLoop J g tt (tApp p te) Qe σ0 H0 := by
  refine loop_gen (fun i => (f i).toList) P hσ hp ok (fun i σ H N hi hP hS hH hN => ?_) hQ
  refine turn i σ H (fun o σ2 H4 => match o with
    | some v => ∃ ys, H4 p = some (.lst ys) ∧ ys.length < sizeLine ∧ N σ2 (upd H4 p (.lst (ys ++ [v])))
    | none => N σ2 H4) hi hP hS fun σ2 H4 hP2 hS2 => ?_
  have hp4 := hS2 p _ hH
  cases e : f i with
  | none =>
    refine hN σ2 H4 hP2 hS2.x ?_
    rw [e]
    simpa using hp4
  | some v =>
    refine ⟨_, hp4, ?_, hN σ2 _ hP2 (hS2.x.upd) ?_⟩
    · have h1 := flatN_le (F := fun i => (f i).toList) (k := 1) (fun i => by show ((f i).toList).length ≤ 1; cases f i <;> simp) i
      have h2 : (100000 : Nat) < sizeLine := by rw [sizeLine_eq]; decide
      rw [List.length_append]
      omega
    · rw [upd_same, e]
      rfl
theorem loop_new {J : It} {g : TG} {tt : TT} {te : TE} {Qe : St → Hp → Prop} {σ0 : St} {H0 : Hp} {p : Addr} {n : Nat} {item : Nat → V} (f : Nat → Option V) (P : St → Prop) (hσ : P σ0) (hp : H0 p = none) (hsz : n ≤ 100000) (ok : ItOk J n item (upd H0 p (.lst [])) p)
    (turn : ∀ i σ H (C : Option V → St → Hp → Prop), i < n → P σ → Same H0 H → (∀ σ2 H4, P σ2 → Same H H4 → C (f i) σ2 H4) →
      g (item i) σ H fun σ2 H2 => tt σ2 H2 fun b H3 => if b = true then te σ2 H3 fun v H4 => C (some v) σ2 H4 else C none σ2 H3)
    (hQ : ∀ σ H, Same H0 H → H p = some (.lst (flatN (fun i => (f i).toList) n)) → Qe σ H) : tLoop J g tt (tApp p te) Qe σ0 (upd H0 p (.lst [])) := by
  have s0 : Same H0 (upd H0 p (.lst [])) := Same.new hp
  have up : ∀ {H}, SameX p (upd H0 p (.lst [])) H → Same H0 H := fun {H} h b o e => h b o (ne_of_none e hp) (s0 b o e)
  refine loop_app f P hσ upd_same (by simpa using hsz) ok (fun i σ H C hi hP hS hC => turn i σ H C hi hP (up hS) hC) fun σ H _ hS hH => hQ σ H (up hS) (by simpa using hH)
theorem flatN_map (f : Nat → V) : ∀ n, flatN (fun i => (some (f i)).toList) n = (List.range n).map f
  | 0 => rfl
  | n + 1 => by
    have := flatN_map f n
    simp only [Option.toList_some] at this
    simp only [flatN, List.range_succ, List.map_append, this, Option.toList_some, List.map_cons, List.map_nil]
end L2
namespace T1
open PySem L2
inductive D where
  | non | bl (b : Bool) | int (i : Int) | str (x : Str) | tup (xs : List D) | lst (xs : List D)
mutual
/-- the value v stands for d; z is an address apart (the law's bag) -/
inductive Rep (z : Addr) (H : Hp) : V → D → Prop where
  | non : Rep z H .non .non
  | bl (b : Bool) : Rep z H (.bl b) (.bl b)
  | int (i : Int) : Rep z H (.int i) (.int i)
  | str (x : Str) (h : x.length ≤ 1000) : Rep z H (.str x) (.str x)
  | tup {a : Addr} {xs : List V} {ds : List D} (h : H a = some (.tup xs)) (hz : a ≠ z) (r : Reps z H xs ds) : Rep z H (.ref a) (.tup ds)
  | lst {a : Addr} {xs : List V} {ds : List D} (h : H a = some (.lst xs)) (hz : a ≠ z) (r : Reps z H xs ds) : Rep z H (.ref a) (.lst ds)
inductive Reps (z : Addr) (H : Hp) : List V → List D → Prop where
  | nil : Reps z H [] []
  | cons {v : V} {d : D} {vs : List V} {ds : List D} (h : Rep z H v d) (t : Reps z H vs ds) : Reps z H (v :: vs) (d :: ds)
end
mutual
theorem Rep.mono {z : Addr} {H H' : Hp} (k : SameX z H H') : ∀ {v : V} {d : D}, Rep z H v d → Rep z H' v d
  | _, _, .non => .non
  | _, _, .bl b => .bl b
  | _, _, .int i => .int i
  | _, _, .str x h => .str x h
  | _, _, .tup h hz r => .tup (k _ _ hz h) hz (Reps.mono k r)
  | _, _, .lst h hz r => .lst (k _ _ hz h) hz (Reps.mono k r)
theorem Reps.mono {z : Addr} {H H' : Hp} (k : SameX z H H') : ∀ {vs : List V} {ds : List D}, Reps z H vs ds → Reps z H' vs ds
  | _, _, .nil => .nil
  | _, _, .cons h t => .cons (Rep.mono k h) (Reps.mono k t)
end
theorem Reps.length {z : Addr} {H : Hp} : ∀ {vs : List V} {ds : List D}, Reps z H vs ds → vs.length = ds.length
  | _, _, .nil => rfl
  | _, _, .cons _ t => by simp [Reps.length t]
theorem Reps.get {z : Addr} {H : Hp} : ∀ {vs : List V} {ds : List D} {i : Nat}, Reps z H vs ds → i < ds.length → Rep z H (vs.getD i .non) (ds.getD i .non)
  | _, _, 0, .cons h _, _ => h
  | _, _, i + 1, .cons _ t, hi => by
    have := Reps.get (i := i) t (by simpa using hi)
    simpa using this
def D.ty : D → String
  | .non => "NoneType" | .bl _ => "bool" | .int _ => "int" | .str _ => "str" | .tup _ => "tuple" | .lst _ => "list"
theorem Rep.ty {z : Addr} {K : PySem.W.Frag} {H : Hp} {v : V} {d : D} (r : Rep z H v d) : TyOf K H v (.type d.ty) := by
  cases r with
  | non => exact .non
  | bl b => exact .bl b
  | int i => exact .int i
  | str x h => exact .str x
  | tup h hz r => exact .tup h
  | lst h hz r => exact .lst h
theorem kit_tup (K : PySem.W.Frag) (d : D) : PySem.W.kitOne K (.type d.ty) (.type "tuple") = some (match d with | .tup _ => true | _ => false) := by cases d <;> rfl
theorem kit_lst (K : PySem.W.Frag) (d : D) : PySem.W.kitOne K (.type d.ty) (.type "list") = some (match d with | .lst _ => true | _ => false) := by cases d <;> rfl
end T1
namespace T1
open PySem L2
theorem b_len : bootBuiltins "len" = some (.builtin "len") := by decide +kernel
theorem b_isinst : bootBuiltins "isinstance" = some (.builtin "isinstance") := by decide +kernel
theorem b_min : bootBuiltins "min" = some (.builtin "min") := by decide +kernel
theorem b_sorted : bootBuiltins "sorted" = some (.builtin "sorted") := by decide +kernel
theorem b_int : bootBuiltins "int" = some (.type "int") := by decide +kernel
theorem b_tuple : bootBuiltins "tuple" = some (.type "tuple") := by decide +kernel
theorem b_list : bootBuiltins "list" = some (.type "list") := by decide +kernel
theorem b_set : bootBuiltins "set" = some (.type "set") := by decide +kernel
def blkChk (S sc : Scope) : Bool := sc.names.all fun x => (x.2 != .local || sc.names.lookup x.1 == some .local) && x.2 != .cell && (x.2 != .free || S.names.lookup x.1 == some .cell)
theorem blk_of {X : Cx} {sc : Scope} (S : Scope) (h : blkChk S sc = true) (hS : X.env.scope = S := by rfl) (hk : sc.kind = .function := by rfl) : BlkOk X sc := by
  unfold blkChk at h
  rw [List.all_eq_true] at h
  refine ⟨hk, fun x hx hl => ?_, fun x hx hc => ?_, fun x hx hf => ?_⟩
  · have := h x hx
    rw [hl] at this
    simp at this
    exact this
  · have := h x hx
    rw [hc] at this
    simp at this
  · have := h x hx
    rw [hf] at this
    simp at this
    show X.env.scope.names.lookup x.1 = some .cell
    rw [hS]
    exact this
def rIsi (K : PySem.W.Frag) : List V → Hp → VK → Prop := fun xs H Q => ∃ x n t b, xs = [x, .ty n] ∧ TyOf K H x t ∧ PySem.W.kitOne K t (.type n) = some b ∧ Q (.bl b) H
theorem pe_isi {X : Cx} {a : Expr} {ta : TE} {T : Str} {n : String} {p1 p2 pos : Pos} (hm : X.mg "isinstance" = none) (hm2 : X.mg T = none) (hb : bootBuiltins T = some (.type n)) (ha : PE X a ta) (hg : Gl X "isinstance" := by rfl) (hg2 : Gl X T := by rfl)
    (hs : starEach [a, .Name T p2] X.env = (false, eval a X.env) :: starEach [.Name T p2] X.env := by rfl) (hpl : (backTo pos (starEach [.Name T p2] X.env)).any (·.1) = false := by rfl) (hn : T ≠ "__name__" := by decide) (hd : (T == ("__debug__" : Str)) = false := by decide) :
    PE X (.Call (.Name "isinstance" p1) [a, .Name T p2] [] pos) (tCB (rIsi X.K) (tCons ta (tCons (tC (.ty n)) tNil))) :=
  pe_callB (p := p1) (pos := pos) (X := X) call_isinst hg hm b_isinst (pa_cons ha (pa_cons (pe_bltn (v := .ty n) (pos := p2) hg2 hm2 hb rfl hn hd) pa_nil) hs) (by decide) (by decide) hs hpl
end T1
namespace L2
open PySem PySem.Spec PyProof.Rows
theorem loop_map {J : It} {g : TG} {te : TE} {Qe : St → Hp → Prop} {σ0 : St} {H0 : Hp} {p : Addr} {n : Nat} {item : Nat → V} (f : Nat → V) (P : St → Prop) (hσ : P σ0) (hp : H0 p = none) (hsz : n ≤ 100000) (ok : ItOk J n item (upd H0 p (.lst [])) p)
    (turn : ∀ i σ H (C : V → St → Hp → Prop), i < n → P σ → Same H0 H → (∀ σ2 H4, P σ2 → Same H H4 → C (f i) σ2 H4) → g (item i) σ H fun σ2 H2 => te σ2 H2 fun v H4 => C v σ2 H4)
    (hQ : ∀ σ H, Same H0 H → H p = some (.lst ((List.range n).map f)) → Qe σ H) : tLoop J g tYes (tApp p te) Qe σ0 (upd H0 p (.lst [])) :=
  loop_new (fun i => some (f i)) P hσ hp hsz ok (fun i σ H C hi hP hS hC => turn i σ H (fun v σ2 H4 => C (some v) σ2 H4) hi hP hS hC) fun σ H hS hH => hQ σ H hS (by rw [flatN_map] at hH; exact hH)
theorem range_map {α : Type} [Inhabited α] (xs : List α) (d : α) (f : α → V) : (List.range xs.length).map (fun i => f (xs.getD i d)) = xs.map f := by
  apply List.ext_getElem?
  intro i
  rw [List.getElem?_map, List.getElem?_map]
  by_cases h : i < xs.length
  · simp [h]
  · simp [h]
end L2
namespace L2
open PySem PySem.Spec PyProof.Rows
section
variable {X : Cx} {sc : Scope} {cl : List (Str × Addr)} {N' : List Str} {s : Shared} {H : Hp} {fp : List Addr}
theorem pg_tupB {es : List Expr} {k : Nat} {t : TGs} {pos : Pos} (n : Nat) (hc : X.calm = true) (h : PGs (X.blk sc cl N' s H fp) es t)
    (hn : (assignEach es (X.blk sc cl N' s H fp).env).length = n := by rfl) (hst : (assignEach es (X.blk sc cl N' s H fp).env).findIdx? (·.1) = none := by rfl) : PG (X.blk sc cl N' s H fp) (.Tuple es k pos) (gTup X.K n t) := pg_tup hc h hn hst
theorem ix_tupB : IxR (X.blk sc cl N' s H fp) (rIxT X.K) := ix_tup
theorem ix_listB : IxR (X.blk sc cl N' s H fp) (rIxL X.K) := ix_list
end
end L2
namespace L2
open PySem PySem.Spec PyProof.Rows
section
variable {X : Cx}
def rNeNil : R2 := fun x y H Q => ∃ p q xs, x = .ref p ∧ y = .ref q ∧ H p = some (.lst xs) ∧ H q = some (.lst []) ∧ Q (.bl (!xs.isEmpty)) H
def rEqNil : R2 := fun x y H Q => ∃ p q xs, x = .ref p ∧ y = .ref q ∧ H p = some (.lst xs) ∧ H q = some (.lst []) ∧ Q (.bl xs.isEmpty) H
theorem op_ne_nil (hu : X.A.units < cLine) : OpR X (compareOp .NotEq) rNeNil := by
  intro pins s σ H x y v u Q I rx ry h
  obtain ⟨p, q, xs, rfl, rfl, hp, hq, k⟩ := h
  cases rx
  cases ry
  obtain ⟨its, rv, pl, hz⟩ := I.list (SqL.of hp)
  obtain ⟨its2, rv2, pl2, hz2⟩ := I.list (SqL.of hq)
  cases rv2
  show wpAny _ _ (richCompare .NotEq _ _) _ _ _
  cases rv with
  | nil => exact SeqAt.RcNeAt.lists (e := fun _ => true) pl.isList pl2.isList rfl hu (fun j h1 _ => absurd h1 (by simp)) _ _ _ _ ⟨.bl _, H, I, rfl, k⟩
  | cons r t => exact SeqAt.RcNeAt.lists_lengths pl.isList pl2.isList (by simp) hu _ _ _ _ ⟨.bl _, H, I, rfl, k⟩
theorem op_eq_nil (hu : X.A.units < cLine) : OpR X (compareOp .Eq) rEqNil := by
  intro pins s σ H x y v u Q I rx ry h
  obtain ⟨p, q, xs, rfl, rfl, hp, hq, k⟩ := h
  cases rx
  cases ry
  obtain ⟨its, rv, pl, hz⟩ := I.list (SqL.of hp)
  obtain ⟨its2, rv2, pl2, hz2⟩ := I.list (SqL.of hq)
  cases rv2
  show wpAny _ _ (richCompare .Eq _ _) _ _ _
  cases rv with
  | nil => exact SeqAt.RcAt.lists (e := fun _ => true) pl.isList pl2.isList rfl hu (fun j h1 _ => absurd h1 (by simp)) _ _ _ _ ⟨.bl _, H, I, rfl, k⟩
  | cons r t => exact SeqAt.RcAt.lists_lengths pl.isList pl2.isList (by simp) hu _ _ _ _ ⟨.bl _, H, I, rfl, k⟩
theorem op_eq_nilT (hu : X.A.units < cLine) : OpR X (compareOp .Eq) (fun x y H Q => ∃ p q xs, x = .ref p ∧ y = .ref q ∧ H p = some (.tup xs) ∧ H q = some (.tup []) ∧ Q (.bl xs.isEmpty) H) := by
  intro pins s σ H x y v u Q I rx ry h
  obtain ⟨p, q, xs, rfl, rfl, hp, hq, k⟩ := h
  cases rx
  cases ry
  obtain ⟨its, rv, pl, hz⟩ := I.tuple (SqT.of hp)
  obtain ⟨its2, rv2, pl2, hz2⟩ := I.tuple (SqT.of hq)
  cases rv2
  show wpAny _ _ (richCompare .Eq _ _) _ _ _
  refine SeqAt.RcAt.tuples (e := fun _ => true) pl pl2 hu (fun j _ h2 => absurd h2 (by simp)) _ _ _ _ ?_
  have e : ((List.range (min its.toArray.size ([] : List Value).toArray.size)).all (fun _ => true) && its.toArray.size == ([] : List Value).toArray.size) = xs.isEmpty := by
    cases rv with
    | nil => rfl
    | cons r t => simp
  rw [e]
  exact ⟨.bl _, H, I, rfl, k⟩
theorem PI.or {tg l : Expr} {wi wi' : TI} (h : PI X tg l wi) (h' : PI X tg l wi') : PI X tg l (fun σ H R => wi σ H R ∨ wi' σ H R) := by
  intro pins s σ H R I q
  rcases q with q | q
  · exact h pins s σ H R I q
  · exact h' pins s σ H R I q
end
end L2
namespace L2
open PySem PySem.Spec PyProof.Rows
section
variable {X : Cx} {pins : List (Addr × Obj)} {σ : St} {H : Hp} {s : Shared} {h' : Heap} {m : Str → Option Value}
theorem news_lib (L : Addr) : News (Att.noObjs s.heap) L s.heap (Att.ledger s.heap L L) := by
  rintro ⟨a, o⟩ hp
  obtain ⟨n1, _, e⟩ := Att.mem_ledger.mp hp
  exact ⟨e, n1, Att.noObjs_get _ _⟩
theorem kept_lib {L : Addr} (N : News (Att.noObjs s.heap) L h' (Att.ledger s.heap L L)) : ∀ b o, b ≠ L → s.heap.get? b = some o → h'.get? b = some o := fun b o hb e => (N (b, o) (Att.mem_ledger.mpr ⟨hb, hb, e⟩)).1
theorem Inv.lib {tk : Nat} (I : Inv X pins σ H s) (hn : s.heap.Ns X.env.locals m) (F : Fr (Att.noObjs s.heap) X.env.locals h' m) (N : News (Att.noObjs s.heap) X.env.locals h' (Att.ledger s.heap X.env.locals X.env.locals)) : Inv X pins σ H { s with heap := h', toks := tk } := by
  have k := kept_lib N
  have nL : ∀ b u, H b = some u → b ≠ X.env.locals := fun b u e z => by rw [z, I.free] at e; cases e
  refine I.step (g' := s.gens) (d' := s.drawn) (ch := []) (fun _ z => nomatch z) (fun b o hb _ _ e _ => k b o hb e) (fun b o hb _ _ e _ => ⟨o.slots, k b o hb e⟩) (fun _ _ _ _ n => n) (fun b o _ e => ?_) (fun _ _ e => e) (fun _ _ _ e => e) (fun b ps e => ⟨#[], by rw [e]; simp⟩) (fun m' hm => ?_) (fun b u e => ?_) I.bare
  · by_cases hb : b = X.env.locals
    · obtain ⟨o', _, _, ho', _⟩ := F.ns
      exact ⟨o', by rw [hb]; exact ho'⟩
    · exact ⟨o, k b o hb e⟩
  · have : m' = m := funext fun x => hm.agree hn x
    rw [this]
    exact F.ns
  · refine (I.hok b u e).stay (fun c v hc q => k c v ?_ q) (fun _ q => q) fun _ _ q => q
    rcases hc with z | z
    · rw [z]; exact nL b u e
    · exact nL c _ z
theorem Inv.libNew {tk : Nat} {D : Addr} {ob : Obj} {o : HO} (I : Inv X pins σ H s) (hn : s.heap.Ns X.env.locals m) (F : Fr (Att.noObjs s.heap) X.env.locals h' m) (N : News (Att.noObjs s.heap) X.env.locals h' ((D, ob) :: Att.ledger s.heap X.env.locals X.env.locals))
    (hD : ∀ q ∈ Att.ledger s.heap X.env.locals X.env.locals, q.1 < D) (new : ObjOk X.prog X.w (upd H D o) h' D o) : H D = none ∧ Inv X pins σ (upd H D o) { s with heap := h', toks := tk } := by
  have N' : News (Att.noObjs s.heap) X.env.locals h' (Att.ledger s.heap X.env.locals X.env.locals) := fun p hp => N p (List.mem_cons_of_mem _ hp)
  have k := kept_lib N'
  have hDL : D ≠ X.env.locals := (N (D, ob) List.mem_cons_self).2.1
  have nold : ∀ o', s.heap.get? D ≠ some o' := fun o' e => absurd (hD (D, o') (Att.mem_ledger.mpr ⟨hDL, hDL, e⟩)) (Nat.lt_irrefl _)
  have nL : ∀ b u, H b = some u → b ≠ X.env.locals := fun b u e z => by rw [z, I.free] at e; cases e
  have old : ∀ b u, H b = some u → ∃ o', s.heap.get? b = some o' := fun b u e => by
    have hlt := (I.hok b u e).lt
    cases u with
    | lst xs => obtain ⟨_, _, _, _, q⟩ := I.hok b _ e; exact ⟨_, q⟩
    | tup xs => obtain ⟨_, _, _, ob, q, _⟩ := I.hok b _ e; exact ⟨ob, q⟩
    | dK kvs => obtain ⟨_, _, _, _, ob, _, _, q, _⟩ := I.hok b _ e; exact ⟨ob, q⟩
    | dT kvs => obtain ⟨_, _, _, _, ob, _, _, q, _⟩ := I.hok b _ e; exact ⟨ob, q⟩
    | set S n => obtain ⟨ob, _, _, _, q, _⟩ := I.hok b _ e; exact ⟨ob, q⟩
    | ins C dx fs => obtain ⟨_, _, _, q, _⟩ := I.hok b _ e; exact ⟨_, q⟩
    | own y => obtain ⟨ob, q⟩ := I.hok b _ e; exact ⟨ob, q⟩
    | xd fs => obtain ⟨_, ⟨ob, _, _, q, _⟩, _⟩ := I.hok b _ e; exact ⟨ob, q⟩
    | rng lo hi => obtain ⟨_, _, _, q⟩ := I.hok b _ e; exact ⟨_, q⟩
    | frz ob u => obtain ⟨q, _⟩ := I.hok b _ e; exact ⟨_, q⟩
    | tbl ps => exact ⟨_, show s.heap.get? b = some _ from I.hok b _ e⟩
    | met f y => exact ⟨_, show s.heap.get? b = some _ from I.hok b _ e⟩
    | ext φ => obtain ⟨_, q, _⟩ := I.hok b _ e; exact q
  have hn0 : H D = none := by
    cases e : H D with
    | none => rfl
    | some u =>
      obtain ⟨o', q⟩ := old D u e
      exact absurd q (nold o')
  have ne : ∀ b u, H b = some u → b ≠ D := fun b u e => ne_of_none e hn0
  refine ⟨hn0, I.step (g' := s.gens) (d' := s.drawn) (ch := []) (fun _ z => nomatch z) (fun b o hb _ _ e _ => k b o hb e) (fun b o hb _ _ e _ => ⟨o.slots, k b o hb e⟩) (fun b o' _ e n => ?_) (fun b o _ e => ?_) (fun b xs e => by rw [upd_ne (ne b _ e)]; exact e) (fun b _ _ e => by rw [upd_ne (ne b _ e)]; exact e) (fun b ps e => ⟨#[], by rw [upd_ne (ne b _ e), e]; simp⟩) (fun m' hm => ?_) (fun b u e => ?_) I.bare⟩
  · rw [upd_ne (fun z => nold o' (by rw [← z]; exact e))]
    exact n
  · by_cases hb : b = X.env.locals
    · obtain ⟨o', _, _, ho', _⟩ := F.ns
      exact ⟨o', by rw [hb]; exact ho'⟩
    · exact ⟨o, k b o hb e⟩
  · have : m' = m := funext fun x => hm.agree hn x
    rw [this]
    exact F.ns
  · by_cases hb : b = D
    · subst hb
      rw [upd_same] at e
      cases e
      exact new
    · rw [upd_ne hb] at e
      refine (I.hok b u e).stay (fun c v hc q => k c v ?_ q) (fun c q => by rw [upd_ne (ne c _ q)]; exact q) fun c _ q => by rw [upd_ne (ne c _ q)]; exact q
      rcases hc with z | z
      · rw [z]; exact nL b u e
      · exact nL c _ z
end
def strOf : Value → Str
  | .str x _ => x
  | _ => ⟨#[]⟩
theorem vals_strOf : ∀ {xs : List Str} {us : List Value}, Vals (xs.map V.str) us → us.map strOf = xs ∧ ∀ u ∈ us, ∃ t, u = .str (strOf u) t
  | [], _, .nil => ⟨rfl, fun u hu => nomatch hu⟩
  | x :: r, _, .cons h t => by
    obtain ⟨t1, rfl⟩ := h
    obtain ⟨e, q⟩ := vals_strOf t
    refine ⟨by rw [List.map_cons, e]; rfl, fun u hu => ?_⟩
    rcases List.mem_cons.mp hu with rfl | hu
    · exact ⟨t1, rfl⟩
    · exact q u hu
theorem vals_of_strs : ∀ {us : List Value}, (∀ u ∈ us, ∃ t, u = .str (strOf u) t) → Vals ((us.map strOf).map V.str) us
  | [], _ => .nil
  | u :: r, h => .cons (h u List.mem_cons_self) (vals_of_strs fun v hv => h v (List.mem_cons_of_mem _ hv))
theorem zip_lens : ∀ its : List Value, (its.map fun u => ((strOf u).length : Int)).zip its = its.map fun u => (((strOf u).length : Int), u)
  | [] => rfl
  | a :: r => by rw [List.map_cons, List.zip_cons_cons, List.map_cons, zip_lens r]
def rSortLen (K : PySem.W.Frag) (b : Bool) : List V → Hp → VK → Prop := fun vs H Q => ∃ (l : Addr) (xs : List Str), vs = [.ref l] ∧ SqL K H l (xs.map V.str) ∧ xs.length < 64 ∧ (∀ y ∈ xs, y.length ≤ sizeLine) ∧
  ∀ (p : Addr) (ys : List Str), H p = none → ys.Perm xs → ys.Pairwise (fun a c => if b then c.length ≤ a.length else a.length ≤ c.length) → Q (.ref p) (upd H p (.lst (ys.map V.str)))
theorem run_sorted_len {X : Cx} {pins : List (Addr × Obj)} {σ : St} {H : Hp} {s : Shared} {Q : VK} {vs : List V} {us : List Value} {kw : List (Str × Value)} {b : Bool} (I : Inv X pins σ H s) (r : Vals vs us) (h : rSortLen X.K b vs H Q)
    (ha1 : ∀ l, argsOk "sorted" ⟨[.ref l], kw⟩) (ha2 : ∀ x, argsOk "list.sort" ⟨[.ref x], kw⟩) (ht : ∀ x, Builtin.«list.sort» ⟨[.ref x], kw⟩ = ksk_tree x (.builtin "len") b) : wpAny (model X.prog X.w) X.A (call (.builtin "sorted") us kw) (EP X pins σ Q) X.xe s := by
  obtain ⟨l, xs, rfl, hl, h64, hz, q⟩ := h
  obtain ⟨u, rfl, ru⟩ := vals1 r
  cases ru
  obtain ⟨its, rv, pl, _⟩ := I.list hl
  obtain ⟨m, hn, _⟩ := id I.loc
  obtain ⟨e1, e2⟩ := vals_strOf rv
  have hlen : its.length = xs.length := by rw [← e1, List.length_map]
  have hn63 := line63
  refine ksk_sorted (b := b) (kz := its.map fun u => ((strOf u).length : Int)) (f := .builtin "len") (Att.fr_all hn) (news_lib X.env.locals) pl.isList (by simp) (by omega) (ha1 l) ha2 ht (fun i v k hv hk h tk own F N => ?_) (fun D h' tk out c F N hD ko => ?_)
  · have hmem := List.mem_of_getElem? hv
    obtain ⟨t, et⟩ := e2 v hmem
    have ek : k = ((strOf v).length : Int) := by
      rw [List.getElem?_map, hv] at hk
      exact (Option.some.inj hk).symm
    have hx : (strOf v).length ≤ sizeLine := hz _ (by rw [← e1]; exact List.mem_map_of_mem hmem)
    rw [et, ek]
    refine len_str (by omega) ?_
    exact KskEnd.intro F N fun p hp => hp
  · obtain ⟨ps, hp, ho, hs⟩ := ko
    have ezip : (its.map fun u => ((strOf u).length : Int)).zip its = its.map fun u => (((strOf u).length : Int), u) := by
      exact zip_lens its
    rw [ezip] at hp
    have hmem : ∀ p ∈ ps, p.1 = ((strOf p.2).length : Int) ∧ p.2 ∈ its := fun p hpp => by
      obtain ⟨u, hu, rfl⟩ := List.mem_map.mp (hp.mem_iff.mp hpp)
      exact ⟨rfl, hu⟩
    have hperm : (ps.map fun p => strOf p.2).Perm xs := by
      have := hp.map fun p => strOf p.2
      rw [List.map_map] at this
      have e3 : its.map ((fun p : Int × Value => strOf p.2) ∘ fun u => (((strOf u).length : Int), u)) = xs := by rw [← e1]; rfl
      rw [e3] at this
      exact this
    have hpair : (ps.map fun p => strOf p.2).Pairwise (fun a c => if b then c.length ≤ a.length else a.length ≤ c.length) := by
      rw [List.pairwise_map]
      refine hs.imp_of_mem fun {p q} h1 h2 h3 => ?_
      have a1 := (hmem p h1).1
      have a2 := (hmem q h2).1
      rw [a1, a2] at h3
      cases b
      · simp at h3 ⊢; omega
      · simp at h3 ⊢; omega
    have hvals : Vals ((ps.map fun p => strOf p.2).map V.str) out.toList := by
      rw [ho]
      have := vals_of_strs (us := ps.map Prod.snd) fun u hu => by
        obtain ⟨p, hpp, rfl⟩ := List.mem_map.mp hu
        exact e2 _ (hmem p hpp).2
      have e4 : (ps.map Prod.snd).map strOf = ps.map fun p => strOf p.2 := by rw [List.map_map]; rfl
      rw [e4] at this
      exact this
    have hlo : (ps.map fun p => strOf p.2).length = xs.length := hperm.length_eq
    have h64' : (64 : Nat) ≤ sizeLine := by rw [sizeLine_eq]; decide
    obtain ⟨hn0, I'⟩ := I.libNew (tk := tk) (o := .lst ((ps.map fun p => strOf p.2).map V.str)) hn F N hD ⟨by rw [List.length_map, hlo]; omega, out.toList, c, hvals, (N (D, seqObj "list" out c) List.mem_cons_self).1⟩
    exact ⟨.ref D, _, I', rfl, q D _ hn0 hperm hpair⟩
theorem pe_sorted_len {X : Cx} {e : Expr} {te : TE} {p p2 kp pos : Pos} (hm : X.mg "sorted" = none) (hm2 : X.mg "len" = none) (he : PE X e te) (hg : Gl X "sorted" := by rfl) (hg2 : Gl X "len" := by rfl)
    (h1 : starEach [e] X.env = (false, eval e X.env) :: starEach [] X.env := by rfl) (h2 : backTo pos (starEach [e] X.env) = (false, eval e X.env) :: backTo pos (starEach [] X.env) := by rfl) (h3 : (backTo pos (starEach [e] X.env)).any (·.1) = false := by rfl) :
    PE X (.Call (.Name "sorted" p) [e] [⟨some "key", .Name "len" p2, kp⟩] pos) (tCB (rSortLen X.K false) (tCons te tNil)) := by
  intro pins s σ H Q I h
  refine wpAny_Call_Name_kw (ld_blt I hg hm T1.b_sorted ?_ (by decide) (by decide))
  refine callWith_kw (thn ((pa_cons he pa_nil h1) pos pins s σ H _ I h) fun us s1 ⟨vs, H1, I1, r, q⟩ => ?_) h2 h3
  refine kws_cons (ld_blt I1 hg2 hm2 T1.b_len (kws_nil ?_) (by decide) (by decide))
  exact run_sorted_len I1 r q (fun l => ksk_s1 _ _) (fun x => ksk_l1 _ _) (fun x => ksk_t4 "len" x)
end L2
namespace L2
open PySem PySem.Spec PyProof.Rows
def cutS (z : Str) (lo hi : Option Int) : Str := ⟨((z.cps.toList.drop (HT.sIx z.length 0 lo)).take (HT.sIx z.length z.length hi - HT.sIx z.length 0 lo)).toArray⟩
theorem clip_s (v : Int) (n d : Nat) : max (0 : Int) (min (if v < 0 then v + (n : Int) else v) (n : Int)) = ((HT.sIx n d (some v) : Nat) : Int) := by
  show _ = (((if v < 0 then (v + (n : Int)).toNat else min v.toNat n) : Nat) : Int)
  by_cases hv : v < 0
  · rw [if_pos hv, if_pos hv]; omega
  · rw [if_neg hv, if_neg hv]; omega
theorem indices_cut (lo hi : Option Int) (n : Nat) : Builtin.Str.strSliceIndices lo hi 1 n = (List.range (HT.sIx n n hi - HT.sIx n 0 lo)).map fun k => HT.sIx n 0 lo + k := by
  have key : ∀ a b : Nat, sliceRange (a : Int) (b : Int) 1 = (List.range (b - a)).map fun k => a + k := fun a b => by
    unfold sliceRange
    have e : ((if (1 : Int) > 0 then (if (a : Int) < b then ((b : Int) - a + 1 - 1) / 1 else 0) else (if (a : Int) > b then ((a : Int) - b - 1 - 1) / (-1) else 0)) : Int).toNat = b - a := by
      rw [if_pos (by decide)]
      by_cases h : (a : Int) < b
      · rw [if_pos h, Int.ediv_one]; omega
      · rw [if_neg h]; omega
    simp only [e]
    refine List.map_congr_left fun k _ => ?_
    omega
  have hlo : (match lo with | none => (if (1 : Int) > 0 then (0 : Int) else (n : Int) - 1) | some i => if (1 : Int) > 0 then max 0 (min (if i < 0 then i + (n : Int) else i) (n : Int)) else max (-1) (min (if i < 0 then i + (n : Int) else i) ((n : Int) - 1))) = ((HT.sIx n 0 lo : Nat) : Int) := by
    cases lo with
    | none => rfl
    | some v =>
      show (if (1 : Int) > 0 then _ else _) = _
      rw [if_pos (by decide)]
      exact clip_s v n 0
  have hhi : (match hi with | none => (if (1 : Int) > 0 then (n : Int) else -1) | some i => if (1 : Int) > 0 then max 0 (min (if i < 0 then i + (n : Int) else i) (n : Int)) else max (-1) (min (if i < 0 then i + (n : Int) else i) ((n : Int) - 1))) = ((HT.sIx n n hi : Nat) : Int) := by
    cases hi with
    | none => rfl
    | some v =>
      show (if (1 : Int) > 0 then _ else _) = _
      rw [if_pos (by decide)]
      exact clip_s v n n
  unfold Builtin.Str.strSliceIndices
  refine Eq.trans ?_ (key _ _)
  rw [← hlo, ← hhi]
  cases lo <;> cases hi <;> rfl
theorem slice_cut (z : Str) (lo hi : Option Int) : Txt.slice z lo hi = cutS z lo hi := by
  have e := indices_cut lo hi z.length
  have h2 := HT.sIx_le z.length z.length (Nat.le_refl _) hi
  have hz : z.cps.toList.length = z.length := by simp; rfl
  have pick : (Builtin.Str.strSliceIndices lo hi 1 z.length).filterMap (z.cps[·]?) = (z.cps.toList.drop (HT.sIx z.length 0 lo)).take (HT.sIx z.length z.length hi - HT.sIx z.length 0 lo) := by
    rw [e]
    by_cases h : HT.sIx z.length 0 lo ≤ HT.sIx z.length z.length hi
    · have h3 := StrLaws.picks z.cps.toList (HT.sIx z.length z.length hi - HT.sIx z.length 0 lo) (HT.sIx z.length 0 lo) (by omega)
      simpa using h3
    · have : HT.sIx z.length z.length hi - HT.sIx z.length 0 lo = 0 := by omega
      rw [this]
      simp
  unfold Txt.slice
  split
  · rename_i hw
    have hl : (Builtin.Str.strSliceIndices lo hi 1 z.length).length = z.length := by simpa using hw
    rw [e, List.length_map, List.length_range] at hl
    unfold cutS
    rw [hl]
    obtain ⟨cs⟩ := z
    by_cases h0 : cs.size = 0
    · have : cs = #[] := Array.eq_empty_of_size_eq_zero h0
      subst this
      simp [Str.length]
    · have a0 : HT.sIx (Str.mk cs).length 0 lo = 0 := by
        have : (Str.mk cs).length = cs.size := rfl
        omega
      rw [a0]
      have : (Str.mk cs).length = cs.toList.length := by simp; rfl
      rw [this, List.drop_zero]
      show Str.mk cs = ⟨(cs.toList.take cs.toList.length).toArray⟩
      rw [List.take_length]
  · unfold cutS
    rw [pick]
def rSlS : V → Option Int → Option Int → Hp → VK → Prop := fun x lo hi H Q => ∃ z, x = .str z ∧ z.length ≤ sizeLine ∧ Q (.str (cutS z lo hi)) H
theorem sl_str {X : Cx} : SlR X rSlS := by
  intro pins s σ H x v vl vu lo hi sl Q I rx hs pl pu h
  obtain ⟨z, rfl, hz, q⟩ := h
  obtain ⟨t, rfl⟩ := rx
  rw [← slice_cut] at q
  refine ⟨"str", _, F.slot_str_getitem.lookup, typeIs_str _ _ _, ?_⟩
  have fin : ∀ (l u : Option (Int × Tok)), l.map (·.1) = lo → u.map (·.1) = hi → vl = partValue l → vu = partValue u → wpAny (model X.prog X.w) X.A (getItem (.str z t) (.ref sl)) (EP X pins σ Q) X.xe s := fun l u e1 e2 e3 e4 => by
    subst e1 e2 e3 e4
    obtain ⟨o, ho, hc, hd⟩ := hs
    refine wpAny_getItem_str_slice (l := l) (u := u) (st := none) ⟨o, ho, hc, hd⟩ rfl ?_
    exact post_val_or_str ⟨Nat.le_trans (Txt.slice_le z _ _) hz, fun t' k => ⟨.str _, H, I.tok _, ⟨_, rfl⟩, q⟩⟩
  cases pl with
  | none =>
    cases pu with
    | none => exact fin none none rfl rfl rfl rfl
    | int j u => exact fin none (some (j, u)) rfl rfl rfl rfl
  | int i t1 =>
    cases pu with
    | none => exact fin (some (i, t1)) none rfl rfl rfl rfl
    | int j u => exact fin (some (i, t1)) (some (j, u)) rfl rfl rfl rfl
end L2
namespace L2
open PySem PySem.Spec PyProof.Rows
def tRev (K : PySem.W.Frag) (te ts : TE) : TE := fun σ H Q => te σ H fun x H1 => ts σ H1 fun k H2 => ∃ a xs, x = .ref a ∧ k = .int (-1) ∧ SqL K H2 a xs ∧ ∀ p, H2 p = none → Q (.ref p) (upd H2 p (.lst xs.reverse))
theorem pe_rev {X : Cx} {e st : Expr} {te ts : TE} {p2 pos : Pos} (he : PE X e te) (hst : PE X st ts) (hmono : ∀ σ H (Q Q' : VK), ts σ H Q → (∀ v H', Q v H' → Q' v H') → ts σ H Q') : PE X (.Subscript e (.Slice none none (some st) p2) pos) (tRev X.K te ts) := by
  intro pins s σ H Q I h
  refine Subscript_ (thn (he pins s σ H _ I h) fun v s1 ⟨x, H1, I1, r1, q1⟩ => ?_)
  refine wpAny_Slice ?_
  rw [evalPart_none]
  refine wpAny_pure ?_
  refine wpAny_pure ?_
  have hp : PO X (some st) (tPart ts) := po_some hst
  have hrd : tPart ts σ H1 (fun o H2 => ∃ i, o = some i ∧ ∃ a xs, x = .ref a ∧ V.int i = .int (-1) ∧ SqL X.K H2 a xs ∧ ∀ p, H2 p = none → Q (.ref p) (upd H2 p (.lst xs.reverse))) := hmono σ H1 _ _ q1 fun k H2 ⟨a, xs, e1, e2, e3, e4⟩ => ⟨-1, e2, -1, rfl, a, xs, e1, rfl, e3, e4⟩
  refine thn (hp pins s1 σ H1 (fun o H2 => ∃ i, o = some i ∧ ∃ a xs, x = .ref a ∧ V.int i = .int (-1) ∧ SqL X.K H2 a xs ∧ ∀ p, H2 p = none → Q (.ref p) (upd H2 p (.lst xs.reverse))) I1 ?_) fun vk s2 ⟨k, H2, I2, pk, q2⟩ => ?_
  · exact hrd
  · obtain ⟨i, rfl, a, xs, rfl, ei, hx, q⟩ := q2
    cases ei
    cases r1
    have I4 : Inv X pins σ H2 { s2 with heap := s2.heap.push { cls := .type "slice", data := .fields #[.none, .none, vk] } } := I2.kept (t' := s2.toks) fun b ob q => Heap.get?_push_of_some _ q
    obtain ⟨its, r, ht, hz⟩ := I4.list hx
    show wpAny (model X.prog X.w) X.A (subscriptTail e (.Slice none none (some st) p2) (.ref a) (.ref s2.heap.objs.size)) (EP X pins σ Q) X.xe { s2 with heap := s2.heap.push { cls := .type "slice", data := .fields #[.none, .none, vk] } }
    refine tail_any (ops := [.ref a, .ref s2.heap.objs.size]) ht.isList.typeIs slot_list_getitem.lookup ?_ (by with_unfolding_all rfl)
    refine wpAny_getItem_list_slice ht.isList (Heap.IsSliceOf.new ..) .none .none pk (by decide) ?_ (by rw [List.size_toArray]; have := r.length; omega)
    rw [PySem.W.krv_pick]
    refine ⟨.ref _, _, I4.laid (t' := s2.toks) (o := .lst xs.reverse) (fun b ob q => Heap.get?_push_of_some _ q) (Nat.le_refl _) ?_, rfl, q _ (I4.hok.fresh (Nat.le_refl _))⟩
    exact ⟨by rw [List.length_reverse]; exact hz, _, 0, r.reverse, by
      have := Heap.get?_push_size { s2.heap.push { cls := .type "slice", data := .fields #[.none, .none, vk] } with } (o := { cls := .type "list", data := .seq its.toArray.toList.reverse.toArray }) rfl
      exact this⟩
end L2
namespace T1
open PySem L2 PyProof.Rows
mutual
inductive Dep : Nat → D → Prop where
  | non (k : Nat) : Dep k .non
  | bl (k : Nat) (b : Bool) : Dep k (.bl b)
  | int (k : Nat) (i : Int) : Dep k (.int i)
  | str (k : Nat) (x : Str) : Dep k (.str x)
  | tup {k : Nat} {ds : List D} (t : Deps k ds) : Dep (k + 1) (.tup ds)
  | lst {k : Nat} {ds : List D} (t : Deps k ds) : Dep (k + 1) (.lst ds)
inductive Deps : Nat → List D → Prop where
  | nil (k : Nat) : Deps k []
  | cons {k : Nat} {d : D} {ds : List D} (h : Dep k d) (t : Deps k ds) : Deps k (d :: ds)
end
theorem Deps.get {k : Nat} : ∀ {ds : List D} {i : Nat}, Deps k ds → i < ds.length → Dep k (ds.getD i .non)
  | _, 0, .cons h _, _ => h
  | _, i + 1, .cons _ t, hi => by
    have := Deps.get (i := i) t (by simpa using hi)
    simpa using this
theorem vals_at {xs : List V} {us : List Value} (r : Vals xs us) {j : Nat} (h : j < us.toArray.size) : RelV (xs.getD j .non) us.toArray[j] := by
  have hl := r.length
  have h' : j < xs.length := by rw [hl]; simpa using h
  obtain ⟨u, hu, ru⟩ := r.get (i := j) (x := xs.getD j .non) (by simp [h'])
  have : us.toArray[j] = u := by
    have h2 : j < us.length := by simpa using h
    have e : us[j]? = some us[j] := List.getElem?_eq_getElem h2
    rw [e] at hu
    simpa using Option.some.inj hu
  rw [this]
  exact ru
section
variable {X : Cx} {pins : List (Addr × Obj)} {σ : L2.St} {H : Hp} {s : Shared} {z z' : Addr}
theorem eq_same (I : Inv X pins σ H s) : ∀ (k : Nat) {d : D}, Dep k d → ∀ {A : Around} {x y : V} {u v : Value}, Room k A → Rep z H x d → Rep z' H y d → RelV x u → RelV y v → SeqAt.EqAt A s u v true := by
  intro k
  induction k with
  | zero =>
    intro d hd A x y u v hr rx ry ru rv
    cases hd with
    | non => cases rx; cases ry; cases ru; cases rv; exact SeqAt.EqAt.same _
    | bl _ b => cases rx; cases ry; cases ru; cases rv; exact SeqAt.EqAt.same _
    | int _ i => cases rx; cases ry; obtain ⟨t, rfl⟩ := ru; obtain ⟨t', rfl⟩ := rv; have := SeqAt.EqAt.int_int (A := A) (s := s) i t i t'; simpa using this
    | str _ x => cases rx; cases ry; obtain ⟨t, rfl⟩ := ru; obtain ⟨t', rfl⟩ := rv; have := SeqAt.EqAt.str_str (A := A) (s := s) x t x t'; simpa using this
  | succ k ih =>
    intro d hd A x y u v hr rx ry ru rv
    cases hd with
    | non => cases rx; cases ry; cases ru; cases rv; exact SeqAt.EqAt.same _
    | bl _ b => cases rx; cases ry; cases ru; cases rv; exact SeqAt.EqAt.same _
    | int _ i => cases rx; cases ry; obtain ⟨t, rfl⟩ := ru; obtain ⟨t', rfl⟩ := rv; have := SeqAt.EqAt.int_int (A := A) (s := s) i t i t'; simpa using this
    | str _ x => cases rx; cases ry; obtain ⟨t, rfl⟩ := ru; obtain ⟨t', rfl⟩ := rv; have := SeqAt.EqAt.str_str (A := A) (s := s) x t x t'; simpa using this
    | @tup _ ds t =>
      cases rx with
      | @tup a xs _ ha _ r1 =>
        cases ry with
        | @tup b ys _ hb _ r2 =>
          cases ru
          cases rv
          by_cases hab : a = b
          · subst hab; exact SeqAt.EqAt.same _
          · obtain ⟨its, q1, p1, _⟩ := I.tuple (SqT.of ha)
            obtain ⟨its2, q2, p2, _⟩ := I.tuple (SqT.of hb)
            have l1 := q1.length
            have l2 := q2.length
            have e1 := r1.length
            have e2 := r2.length
            have key := SeqAt.RcAt.tuples (e := fun _ => true) p1 p2 hr.units0 fun j h1 h2 => ih (t.get (i := j) (by rw [← e1, l1]; simpa using h1)) hr.in1 (r1.get (i := j) (by rw [← e1, l1]; simpa using h1)) (r2.get (i := j) (by rw [← e2, l2]; simpa using h2)) (vals_at q1 h1) (vals_at q2 h2)
            have e : ((List.range (min its.toArray.size its2.toArray.size)).all (fun _ => true) && its.toArray.size == its2.toArray.size) = true := by
              have : its.toArray.size = its2.toArray.size := by simp; omega
              rw [this]
              simp
            rw [e] at key
            exact SeqAt.EqAt.of_refs hab key
    | @lst _ ds t =>
      cases rx with
      | @lst a xs _ ha _ r1 =>
        cases ry with
        | @lst b ys _ hb _ r2 =>
          cases ru
          cases rv
          by_cases hab : a = b
          · subst hab; exact SeqAt.EqAt.same _
          · obtain ⟨its, q1, p1, _⟩ := I.list (SqL.of ha)
            obtain ⟨its2, q2, p2, _⟩ := I.list (SqL.of hb)
            have l1 := q1.length
            have l2 := q2.length
            have e1 := r1.length
            have e2 := r2.length
            have hsz : its.toArray.size = its2.toArray.size := by simp; omega
            have key := SeqAt.RcAt.lists (e := fun _ => true) p1.isList p2.isList hsz hr.units0 fun j h1 h2 => ih (t.get (i := j) (by rw [← e1, l1]; simpa using h1)) hr.in1 (r1.get (i := j) (by rw [← e1, l1]; simpa using h1)) (r2.get (i := j) (by rw [← e2, l2]; simpa using h2)) (vals_at q1 h1) (vals_at q2 h2)
            have e : (List.range its.toArray.size).all (fun _ => true) = true := by simp
            rw [e] at key
            exact SeqAt.EqAt.of_refs hab key
end
end T1
namespace L2
open PySem PySem.Spec PyProof.Rows
end L2
namespace L2
open PySem PySem.Spec PyProof.Rows
theorem seq_hide {t u : TS} {D : Ends} {σ : St} {H : Hp} (h : ∀ U : St → Hp → Prop, (∀ σ H, u D σ H → U σ H) → t { D with nx := U } σ H) : tSeq t u D σ H := h (u D) fun _ _ q => q
theorem D_hide {t : TS} {D : Ends} {σ : St} {H : Hp} (h : ∀ D' : Ends, (∀ σ H, D.nx σ H → D'.nx σ H) → (∀ v H, D.rt v H → D'.rt v H) → (∀ σ H, D.bk σ H → D'.bk σ H) → (∀ σ H, D.ct σ H → D'.ct σ H) → t D' σ H) : t D σ H := h D (fun _ _ q => q) (fun _ _ q => q) (fun _ _ q => q) fun _ _ q => q
structure Wrq (G : Prop) : Prop where
  out : G
theorem ite_both {c A G : Prop} [Decidable c] (h : c → Wrq G → A) (g : G) : if c then A else G := by
  by_cases q : c
  · rw [if_pos q]
    exact h q ⟨g⟩
  · rw [if_neg q]
    exact g
theorem seq_cut {t u : TS} {D : Ends} {σ : St} {H : Hp} {J : St → Hp → Prop} (h1 : ∀ U : St → Hp → Prop, (∀ σ H, J σ H → U σ H) → t { D with nx := U } σ H) (h2 : ∀ σ H, J σ H → u D σ H) : tSeq t u D σ H := h1 (u D) h2
end L2
namespace L2
open PySem PySem.Spec PySem.Calls PyProof.Rows
section
variable {prog : Program} {w : World} {A : Around} {E : Value → Shared → Prop} {s : Shared}
end
end L2
namespace L2
open PySem PySem.Spec PySem.Calls PyProof.Rows
section
variable {X : Cx} {pins : List (Addr × Obj)} {σ : St} {H : Hp} {s : Shared} {E : Value → Shared → Prop}
end
end L2
namespace L2
open PySem PySem.Spec PySem.Calls PyProof.Rows
section
variable {X : Cx} {pins : List (Addr × Obj)} {σ : St} {H : Hp} {s : Shared} {E : Value → Shared → Prop}
end
end L2
namespace L2
open PySem PySem.Spec PyProof.Rows
end L2
namespace L2
open PySem PySem.Spec PyProof.Rows
section
variable {prog : Program} {w : World} {A : Around} {E : Value → Shared → Prop} {s : Shared}
theorem draw_list {it t : Addr} {items : Array Value} (hne : t ≠ it) : ∀ (n i : Nat) (s : Shared) (Q : List Value → Shared → Prop), s.heap.IsListIter it t i → s.heap.IsList t items → i + n ≤ items.size →
    (∀ h', h'.IsListIter it t (i + n) → Heap.SameBut it s.heap h' → Q ((items.toList.drop i).take n) { s with heap := h' }) → wpAny (model prog w) A (draw (.ref it) n) Q E s
  | 0, i, s, Q, hit, _, _, hQ => by
    show wpAny _ _ (pure []) Q E s
    exact wpAny_pure (by simpa using hQ s.heap hit (Heap.SameBut.refl ..))
  | n + 1, i, s, Q, hit, ht, hle, hQ => by
    have hlt : i < items.size := by omega
    show wpAny _ _ (pyNext (.ref it) >>= _) Q E s
    refine wpAny_bind (wpAny_pyNext_list_item hit ht (x := items[i]) (by simp [hlt]) fun h₁ hit₁ hs₁ => ?_)
    refine wpAny_bind (wpAny_holding (draw_list hne n (i + 1) _ _ hit₁ (ht.extBut hs₁.extBut hne) (by omega) fun h₂ hit₂ hs₂ => wpAny_pure ?_))
    have hd : items.toList.drop i = items[i] :: items.toList.drop (i + 1) := by simp [List.drop_eq_getElem_cons, hlt]
    have := hQ h₂ (by rw [show i + (n + 1) = i + 1 + n by omega]; exact hit₂) (hs₁.trans hs₂)
    rw [hd, List.take_succ_cons] at this
    exact this
theorem unpackItems_list {t : Addr} {items : Array Value} {Q : List Value → Shared → Prop} (hh : A.handled = none) (ht : s.heap.IsList t items)
    (hQ : ∀ h', Heap.ExtBut s.heap.objs.size s.heap h' → Q items.toList { s with heap := h' }) : wpAny (model prog w) A (unpackItems (.ref t) items.size none) Q E s := by
  have hlt : t ≠ s.heap.objs.size := by obtain ⟨o, ho, _⟩ := ht; exact Nat.ne_of_lt (Heap.lt_size ho)
  unfold unpackItems
  refine wpAny_bind ?_
  · unfold notIterableAtAll
    refine wpAny_bind (wpAny_specialOf ht.typeIs F.slot_list_iter.lookup ?_)
    refine wpAny_pure ?_
    simp only [Bool.false_eq_true, if_false]
    refine wpAny_bind (wpAny_holding (wpAny_pyIter_list ht ?_))
    refine wpAny_bind (wpAny_holding (draw_list hlt items.size 0 _ _ ⟨_, Heap.get?_push_size _ rfl, rfl, rfl⟩ (ht.push _) (by omega) fun h₁ hit₁ hs₁ => ?_))
    have hall : List.take items.size (List.drop 0 items.toList) = items.toList := by
      rw [List.drop_zero]; exact List.take_of_length_le (by simp)
    rw [hall]
    rw [if_neg (by simp)]
    have ht₁ : Heap.IsList h₁ t items := (ht.push _).extBut hs₁.extBut hlt
    refine wpAny_bind (wpAny_holding (wpAny_pyNext_list_end hh hit₁ ht₁ (by simp) fun h₂ he₂ => ?_))
    simp only [Option.isSome_none, Bool.false_eq_true, if_false]
    refine wpAny_pure (hQ h₂ fun b o hb e => he₂ b o hb (hs₁.extBut b o hb (Heap.get?_push_of_some _ e)))
theorem assign_Tuple_list {env : Env} {elts : List Expr} {x1} {pos : Pos} {t : Addr} {items : Array Value} {Q : Unit → Shared → Prop} (hh : A.handled = none) (ht : s.heap.IsList t items)
    (hn : (assignEach elts env).length = items.size) (hstar : (assignEach elts env).findIdx? (·.1) = none)
    (h : ∀ h', Heap.ExtBut s.heap.objs.size s.heap h' → wpAny (model prog w) A (assignInOrder ((assignEach elts env).map (·.2)) items.toList) Q E { s with heap := h' }) :
    wpAny (model prog w) A (assign (.Tuple elts x1 pos) env (.ref t)) Q E s := by
  rw [assign_Tuple]
  refine wpAny_bind (wpAny_standAt ?_)
  unfold unpack
  rw [hn, hstar]
  exact wpAny_bind (wpAny_holding (unpackItems_list hh ht h))
end
def gTupL (K : PySem.W.Frag) (n : Nat) (t : TGs) : TG := fun v σ H Q => ∃ a xs, v = .ref a ∧ SqL K H a xs ∧ xs.length = n ∧ t xs σ H Q
theorem pg_tupL {X : Cx} {pos : Pos} {es : List Expr} {k : Nat} {t : TGs} {n : Nat} (hc : X.calm = true) (h : PGs X es t)
    (hn : (assignEach es X.env).length = n := by rfl) (hst : (assignEach es X.env).findIdx? (·.1) = none := by rfl) : PG X (.Tuple es k pos) (gTupL X.K n t) := by
  intro pins s σ H v u Q I r hw
  obtain ⟨a, xs, e1, hq, hl, hw⟩ := hw
  subst e1
  cases r
  obtain ⟨its, rv, ht, hz⟩ := I.list hq
  refine assign_Tuple_list (I.ok.hd hc) ht.isList (by simp [hn, ← hl, rv.length]) hst fun h' hx => ?_
  have I1 : Inv X pins σ H { s with heap := h' } := I.kept (t' := s.toks) fun b o e => hx b o (Nat.ne_of_lt (Heap.lt_size e)) e
  exact h pins _ σ H xs _ Q I1 (by simpa using rv) hw
end L2
namespace T1
open PySem PySem.Spec PyProof.Rows L2
def rSameT (b : Bool) : R2 := fun x y H Q => ∃ z z' ds, Rep z H x (.tup ds) ∧ Rep z' H y (.tup ds) ∧ Deps 4 ds ∧ Q (.bl b) H
theorem op_ne_sameT {X : Cx} (hr : Room 5 X.A) : OpR X (compareOp .NotEq) (rSameT false) := by
  intro pins s σ H x y v u Q I rx ry h
  obtain ⟨z, z', ds, r1, r2, dp, q⟩ := h
  cases r1 with
  | @tup a xs _ ha _ r1 =>
    cases r2 with
    | @tup b ys _ hb _ r2 =>
      cases rx
      cases ry
      obtain ⟨its, q1, p1, _⟩ := I.tuple (SqT.of ha)
      obtain ⟨its2, q2, p2, _⟩ := I.tuple (SqT.of hb)
      have l1 := q1.length
      have l2 := q2.length
      have e1 := r1.length
      have e2 := r2.length
      have hsz : its.toArray.size = its2.toArray.size := by simp; omega
      show wpAny _ _ (richCompare .NotEq _ _) _ _ _
      refine SeqAt.RcNeAt.tuples (e := fun _ => true) p1 p2 hr.units0 (fun j h1 h2 => eq_same I 4 (dp.get (i := j) (by rw [← e1, l1]; simpa using h1)) hr.in1 (r1.get (i := j) (by rw [← e1, l1]; simpa using h1)) (r2.get (i := j) (by rw [← e2, l2]; simpa using h2)) (vals_at q1 h1) (vals_at q2 h2)) _ _ _ _ ?_
      have e : (!((List.range (min its.toArray.size its2.toArray.size)).all (fun _ => true) && its.toArray.size == its2.toArray.size)) = false := by rw [hsz]; simp
      rw [e]
      exact ⟨.bl _, H, I, rfl, q⟩
end T1
namespace L2
open PySem PySem.Spec PyProof.Rows
end L2
namespace L2
open PySem PySem.Spec PyProof.Rows
end L2
namespace T1
open PySem PySem.Spec PyProof.Rows L2
end T1
namespace L2
open PySem PySem.Spec PyProof.Rows
end L2
namespace T1
open PySem L2 PyProof.Rows
mutual
def eqD : D → D → Bool
  | .non, .non => true
  | .bl a, .bl b => a == b
  | .int a, .int b => a == b
  | .str a, .str b => a == b
  | .tup xs, .tup ys => eqDs xs ys
  | .lst xs, .lst ys => eqDs xs ys
  | _, _ => false
def eqDs : List D → List D → Bool
  | [], [] => true
  | a :: xs, b :: ys => eqD a b && eqDs xs ys
  | _, _ => false
end
mutual
theorem eqD_eq : ∀ {a b : D}, eqD a b = true → a = b
  | .non, .non, _ => rfl
  | .bl a, .bl b, h => by rw [eqD] at h; rw [eq_of_beq h]
  | .int a, .int b, h => by rw [eqD] at h; rw [eq_of_beq h]
  | .str a, .str b, h => by rw [eqD] at h; rw [eq_of_beq h]
  | .tup xs, .tup ys, h => by rw [eqD] at h; rw [eqDs_eq h]
  | .lst xs, .lst ys, h => by rw [eqD] at h; rw [eqDs_eq h]
  | .non, .bl _, h | .non, .int _, h | .non, .str _, h | .non, .tup _, h | .non, .lst _, h => by simp [eqD] at h
  | .bl _, .non, h | .bl _, .int _, h | .bl _, .str _, h | .bl _, .tup _, h | .bl _, .lst _, h => by simp [eqD] at h
  | .int _, .non, h | .int _, .bl _, h | .int _, .str _, h | .int _, .tup _, h | .int _, .lst _, h => by simp [eqD] at h
  | .str _, .non, h | .str _, .bl _, h | .str _, .int _, h | .str _, .tup _, h | .str _, .lst _, h => by simp [eqD] at h
  | .tup _, .non, h | .tup _, .bl _, h | .tup _, .int _, h | .tup _, .str _, h | .tup _, .lst _, h => by simp [eqD] at h
  | .lst _, .non, h | .lst _, .bl _, h | .lst _, .int _, h | .lst _, .str _, h | .lst _, .tup _, h => by simp [eqD] at h
theorem eqDs_eq : ∀ {xs ys : List D}, eqDs xs ys = true → xs = ys
  | [], [], _ => rfl
  | a :: xs, b :: ys, h => by
    rw [eqDs, Bool.and_eq_true] at h
    rw [eqD_eq h.1, eqDs_eq h.2]
  | [], _ :: _, h => by simp [eqDs] at h
  | _ :: _, [], h => by simp [eqDs] at h
end
mutual
theorem eqD_refl : ∀ a : D, eqD a a = true
  | .non => by simp [eqD]
  | .bl a => by simp [eqD]
  | .int a => by simp [eqD]
  | .str a => by simp [eqD]
  | .tup xs => by rw [eqD]; exact eqDs_refl xs
  | .lst xs => by rw [eqD]; exact eqDs_refl xs
theorem eqDs_refl : ∀ xs : List D, eqDs xs xs = true
  | [] => by simp [eqDs]
  | a :: xs => by rw [eqDs, eqD_refl a, eqDs_refl xs]; rfl
end
theorem eqDs_range : ∀ xs ys : List D, eqDs xs ys = ((List.range (min xs.length ys.length)).all (fun j => eqD (xs.getD j .non) (ys.getD j .non)) && xs.length == ys.length)
  | [], [] => by simp [eqDs]
  | [], _ :: _ => by simp [eqDs]
  | _ :: _, [] => by simp [eqDs]
  | a :: xs, b :: ys => by
    rw [eqDs, eqDs_range xs ys, List.length_cons, List.length_cons, Nat.succ_min_succ, List.range_succ_eq_map, List.all_cons, List.all_map, Bool.and_assoc]
    congr 1
    congr 1
    simp
mutual
inductive Cmp : Nat → D → D → Prop where
  | non (k : Nat) : Cmp k .non .non
  | int (k : Nat) (i j : Int) : Cmp k (.int i) (.int j)
  | str (k : Nat) (x y : Str) : Cmp k (.str x) (.str y)
  | tup {k : Nat} {xs ys : List D} (t : Cmps k xs ys) : Cmp (k + 1) (.tup xs) (.tup ys)
  | lst {k : Nat} {xs ys : List D} (t : Cmps k xs ys) : Cmp (k + 1) (.lst xs) (.lst ys)
inductive Cmps : Nat → List D → List D → Prop where
  | nilL (k : Nat) (ys : List D) : Cmps k [] ys
  | nilR (k : Nat) (xs : List D) : Cmps k xs []
  | cons {k : Nat} {a b : D} {xs ys : List D} (h : Cmp k a b) (t : Cmps k xs ys) : Cmps k (a :: xs) (b :: ys)
end
theorem Cmps.get {k : Nat} : ∀ {xs ys : List D} {i : Nat}, Cmps k xs ys → i < xs.length → i < ys.length → Cmp k (xs.getD i .non) (ys.getD i .non)
  | _, _, _, .nilL _ _, h, _ => absurd h (by simp)
  | _, _, _, .nilR _ _, _, h => absurd h (by simp)
  | _, _, 0, .cons h _, _, _ => h
  | _, _, i + 1, .cons _ t, h1, h2 => by
    have := Cmps.get (i := i) t (by simpa using h1) (by simpa using h2)
    simpa using this
mutual
theorem Rep.inj {z z' : Addr} {H : Hp} : ∀ {v : V} {d e : D}, Rep z H v d → Rep z' H v e → d = e
  | _, _, _, .non, .non => rfl
  | _, _, _, .bl _, .bl _ => rfl
  | _, _, _, .int _, .int _ => rfl
  | _, _, _, .str _ _, .str _ _ => rfl
  | _, _, _, .tup h _ r, .tup h' _ r' => by
    rw [h] at h'
    cases h'
    rw [Reps.inj r r']
  | _, _, _, .lst h _ r, .lst h' _ r' => by
    rw [h] at h'
    cases h'
    rw [Reps.inj r r']
  | _, _, _, .tup h _ _, .lst h' _ _ => by rw [h] at h'; cases h'
  | _, _, _, .lst h _ _, .tup h' _ _ => by rw [h] at h'; cases h'
theorem Reps.inj {z z' : Addr} {H : Hp} : ∀ {vs : List V} {ds es : List D}, Reps z H vs ds → Reps z' H vs es → ds = es
  | _, _, _, .nil, .nil => rfl
  | _, _, _, .cons h t, .cons h' t' => by rw [Rep.inj h h', Reps.inj t t']
end
section
variable {X : Cx} {pins : List (Addr × Obj)} {σ : L2.St} {H : Hp} {s : Shared} {z z' : Addr}
theorem eq_dec (I : Inv X pins σ H s) : ∀ (k : Nat) {d e : D}, Cmp k d e → ∀ {A : Around} {x y : V} {u v : Value}, Room k A → Rep z H x d → Rep z' H y e → RelV x u → RelV y v → SeqAt.EqAt A s u v (eqD d e) := by
  intro k
  induction k with
  | zero =>
    intro d e hd A x y u v hr rx ry ru rv
    cases hd with
    | non => cases rx; cases ry; cases ru; cases rv; rw [eqD]; exact SeqAt.EqAt.same _
    | int _ i j => cases rx; cases ry; obtain ⟨t, rfl⟩ := ru; obtain ⟨t', rfl⟩ := rv; rw [eqD]; exact SeqAt.EqAt.int_int (A := A) (s := s) i t j t'
    | str _ x y => cases rx; cases ry; obtain ⟨t, rfl⟩ := ru; obtain ⟨t', rfl⟩ := rv; rw [eqD]; exact SeqAt.EqAt.str_str (A := A) (s := s) x t y t'
  | succ k ih =>
    intro d e hd A x y u v hr rx ry ru rv
    cases hd with
    | non => cases rx; cases ry; cases ru; cases rv; rw [eqD]; exact SeqAt.EqAt.same _
    | int _ i j => cases rx; cases ry; obtain ⟨t, rfl⟩ := ru; obtain ⟨t', rfl⟩ := rv; rw [eqD]; exact SeqAt.EqAt.int_int (A := A) (s := s) i t j t'
    | str _ x y => cases rx; cases ry; obtain ⟨t, rfl⟩ := ru; obtain ⟨t', rfl⟩ := rv; rw [eqD]; exact SeqAt.EqAt.str_str (A := A) (s := s) x t y t'
    | @tup _ ds es t =>
      have rx0 := rx
      have ry0 := ry
      cases rx with
      | @tup a xs _ ha _ r1 =>
        cases ry with
        | @tup b ys _ hb _ r2 =>
          cases ru
          cases rv
          by_cases hab : a = b
          · subst hab
            rw [Rep.inj rx0 ry0, eqD_refl]
            exact SeqAt.EqAt.same _
          · obtain ⟨its, q1, p1, _⟩ := I.tuple (SqT.of ha)
            obtain ⟨its2, q2, p2, _⟩ := I.tuple (SqT.of hb)
            have l1 := q1.length
            have l2 := q2.length
            have e1 := r1.length
            have e2 := r2.length
            have key := SeqAt.RcAt.tuples (e := fun j => eqD (ds.getD j .non) (es.getD j .non)) p1 p2 hr.units0 fun j h1 h2 => ih (t.get (i := j) (by rw [← e1, l1]; simpa using h1) (by rw [← e2, l2]; simpa using h2)) hr.in1 (r1.get (i := j) (by rw [← e1, l1]; simpa using h1)) (r2.get (i := j) (by rw [← e2, l2]; simpa using h2)) (vals_at q1 h1) (vals_at q2 h2)
            rw [eqD, eqDs_range]
            have g1 : its.toArray.size = ds.length := by simp; omega
            have g2 : its2.toArray.size = es.length := by simp; omega
            rw [g1, g2] at key
            exact SeqAt.EqAt.of_refs hab key
    | @lst _ ds es t =>
      have rx0 := rx
      have ry0 := ry
      cases rx with
      | @lst a xs _ ha _ r1 =>
        cases ry with
        | @lst b ys _ hb _ r2 =>
          cases ru
          cases rv
          by_cases hab : a = b
          · subst hab
            rw [Rep.inj rx0 ry0, eqD_refl]
            exact SeqAt.EqAt.same _
          · obtain ⟨its, q1, p1, _⟩ := I.list (SqL.of ha)
            obtain ⟨its2, q2, p2, _⟩ := I.list (SqL.of hb)
            have l1 := q1.length
            have l2 := q2.length
            have e1 := r1.length
            have e2 := r2.length
            have g1 : its.toArray.size = ds.length := by simp; omega
            have g2 : its2.toArray.size = es.length := by simp; omega
            rw [eqD, eqDs_range]
            by_cases hsz : its.toArray.size = its2.toArray.size
            · have key := SeqAt.RcAt.lists (e := fun j => eqD (ds.getD j .non) (es.getD j .non)) p1.isList p2.isList hsz hr.units0 fun j h1 h2 => ih (t.get (i := j) (by rw [← e1, l1]; simpa using h1) (by rw [← e2, l2]; simpa using h2)) hr.in1 (r1.get (i := j) (by rw [← e1, l1]; simpa using h1)) (r2.get (i := j) (by rw [← e2, l2]; simpa using h2)) (vals_at q1 h1) (vals_at q2 h2)
              have g3 : ds.length = es.length := by omega
              rw [g1] at key
              have e : ((List.range (min ds.length es.length)).all (fun j => eqD (ds.getD j .non) (es.getD j .non)) && ds.length == es.length) = (List.range ds.length).all (fun j => eqD (ds.getD j .non) (es.getD j .non)) := by
                rw [g3, Nat.min_self, beq_self_eq_true, Bool.and_true]
              rw [e]
              exact SeqAt.EqAt.of_refs hab key
            · have key := SeqAt.RcAt.lists_lengths (A := A) p1.isList p2.isList (by simpa using hsz) hr.units0
              have e : (ds.length == es.length) = false := by rw [beq_eq_false_iff_ne]; omega
              rw [e, Bool.and_false]
              exact SeqAt.EqAt.of_refs hab key
def rEqL : R2 := fun x y H Q => ∃ z z' ds es, Rep z H x (.lst ds) ∧ Rep z' H y (.lst es) ∧ Cmps 4 ds es ∧ Q (.bl (eqDs ds es)) H
theorem op_eqL {X : Cx} (hr : Room 5 X.A) : OpR X (compareOp .Eq) rEqL := by
  intro pins s σ H x y v u Q I rx ry h
  obtain ⟨z, z', ds, es, r1, r2, t, q⟩ := h
  cases r1 with
  | @lst a xs _ ha _ r1 =>
    cases r2 with
    | @lst b ys _ hb _ r2 =>
      cases rx
      cases ry
      obtain ⟨its, q1, p1, _⟩ := I.list (SqL.of ha)
      obtain ⟨its2, q2, p2, _⟩ := I.list (SqL.of hb)
      have l1 := q1.length
      have l2 := q2.length
      have e1 := r1.length
      have e2 := r2.length
      have g1 : its.toArray.size = ds.length := by simp; omega
      have g2 : its2.toArray.size = es.length := by simp; omega
      rw [eqDs_range] at q
      show wpAny _ _ (richCompare .Eq _ _) _ _ _
      by_cases hsz : its.toArray.size = its2.toArray.size
      · have g3 : ds.length = es.length := by omega
        refine SeqAt.RcAt.lists (e := fun j => eqD (ds.getD j .non) (es.getD j .non)) p1.isList p2.isList hsz hr.units0 (fun j h1 h2 => eq_dec I 4 (t.get (i := j) (by rw [← e1, l1]; simpa using h1) (by rw [← e2, l2]; simpa using h2)) hr.in1 (r1.get (i := j) (by rw [← e1, l1]; simpa using h1)) (r2.get (i := j) (by rw [← e2, l2]; simpa using h2)) (vals_at q1 h1) (vals_at q2 h2)) _ _ _ _ ?_
        rw [g3, Nat.min_self, beq_self_eq_true, Bool.and_true, ← g3, ← g1] at q
        exact ⟨.bl _, H, I, rfl, q⟩
      · refine SeqAt.RcAt.lists_lengths p1.isList p2.isList (by simpa using hsz) hr.units0 _ _ _ _ ?_
        have e : (ds.length == es.length) = false := by rw [beq_eq_false_iff_ne]; omega
        rw [e, Bool.and_false] at q
        exact ⟨.bl _, H, I, rfl, q⟩
end
end T1
namespace L2
open PySem PySem.Spec PyProof.Rows
section
variable {κ : Type} [DecidableEq κ]
def valV (kvs : List (κ × V)) (k : κ) : Option V := (kvs.find? fun kv => decide (kv.1 = k)).map (·.2)
def putK (kvs : List (κ × V)) (k : κ) (v : V) : List (κ × V) :=
  if (kvs.any fun kv => decide (kv.1 = k)) = true then kvs.map (fun kv => if kv.1 = k then (kv.1, v) else kv) else kvs ++ [(k, v)]
theorem valV_pos {p : κ × V} {r : List (κ × V)} {k : κ} (e : p.1 = k) : valV (p :: r) k = some p.2 := by simp [valV, List.find?_cons, e]
theorem valV_neg {p : κ × V} {r : List (κ × V)} {k : κ} (e : ¬ p.1 = k) : valV (p :: r) k = valV r k := by simp [valV, List.find?_cons, e]
theorem valV_any (k : κ) : ∀ kvs : List (κ × V), (kvs.any fun kv => decide (kv.1 = k)) = (valV kvs k).isSome
  | [] => rfl
  | p :: r => by
    rw [List.any_cons]
    by_cases e : p.1 = k
    · simp only [valV_pos e, decide_eq_true e, Bool.true_or, Option.isSome_some]
    · rw [valV_neg e, decide_eq_false e, Bool.false_or]; exact valV_any k r
theorem length_putK (kvs : List (κ × V)) (k : κ) (v : V) : (putK kvs k v).length ≤ kvs.length + 1 := by
  unfold putK
  split
  · rw [List.length_map]; omega
  · rw [List.length_append, List.length_cons, List.length_nil]; omega
theorem putK_new {kvs : List (κ × V)} {k : κ} (v : V) (h : valV kvs k = none) : putK kvs k v = kvs ++ [(k, v)] := by
  unfold putK
  rw [valV_any, h]
  exact if_neg (by decide)
theorem RelO.isSome_eq {o : Option V} {u : Option Value} (r : RelO o u) : o.isSome = u.isSome := by
  cases o with
  | none => cases u with
    | none => rfl
    | some _ => exact (show False from r).elim
  | some _ => cases u with
    | none => exact (show False from r).elim
    | some _ => rfl
theorem KV.any {kvs : List (κ × V)} {vs : List (κ × Value)} (r : KV kvs vs) (k : κ) : (kvs.any fun kv => decide (kv.1 = k)) = vs.any fun kv => decide (kv.1 = k) := by
  unfold KV at r
  induction r with
  | nil => rfl
  | cons h t ih => rw [List.any_cons, List.any_cons, ih, h.1]
theorem KV.repl {kvs : List (κ × V)} {vs : List (κ × Value)} (r : KV kvs vs) (k : κ) {y : V} {u : Value} (ry : RelV y u) :
    KV (kvs.map fun kv => if kv.1 = k then (kv.1, y) else kv) (vs.map fun kv => if kv.1 = k then (kv.1, u) else kv) := by
  unfold KV at r ⊢
  induction r with
  | nil => exact .nil
  | @cons p q ps qs h t ih =>
    rw [List.map_cons, List.map_cons]
    refine .cons ?_ ih
    obtain ⟨h1, h2⟩ := h
    by_cases e : p.1 = k
    · rw [if_pos e, if_pos (h1.symm.trans e)]; exact ⟨h1, ry⟩
    · rw [if_neg e, if_neg (fun z => e (h1.trans z))]; exact ⟨h1, h2⟩
theorem KV.put {kvs : List (κ × V)} {vs : List (κ × Value)} (r : KV kvs vs) (k : κ) {y : V} {u : Value} (ry : RelV y u) : KV (putK kvs k y) (stored vs k u) := by
  unfold putK stored
  rw [r.any k]
  by_cases e : (vs.any fun kv => decide (kv.1 = k)) = true
  · rw [if_pos e, if_pos e]; exact r.repl k ry
  · rw [if_neg e, if_neg e]; exact Paired.snoc r ⟨rfl, ry⟩
theorem KV.length {kvs : List (κ × V)} {vs : List (κ × Value)} (r : KV kvs vs) : kvs.length = vs.length := Paired.length r
end
theorem kV_is {P : Program} {w : World} {k : Key} {u : Value} (r : RelV (kV k) u) : (mixKind P w).is k u = true := by
  cases k with
  | inl i => obtain ⟨t, e⟩ := (show ∃ t, u = Value.int i t from r); subst e; exact mixKind_int P w i t
  | inr x => obtain ⟨t, e⟩ := (show ∃ t, u = Value.str x t from r); subst e; exact mixKind_str P w x t
theorem items_are {P : Program} {w : World} : ∀ {ks : List Key} {us : List Value}, Vals (ks.map kV) us → ItemsAre (mixKind P w) ks us
  | [], _, r => by rw [List.map_nil] at r; cases r; exact .nil
  | k :: ks, _, r => by
    rw [List.map_cons] at r
    cases r with
    | cons h t => exact .cons (kV_is h) (items_are t)
abbrev KT (H : Hp) : List (List Key × V) → List (List Key × Addr × Value) → Prop := Paired fun p q => p.1 = q.1 ∧ H q.2.1 = some (.tup (p.1.map kV)) ∧ RelV p.2 q.2.2
theorem KT.val {H : Hp} {kvs : List (List Key × V)} {xs : List (List Key × Addr × Value)} (r : KT H kvs xs) (k : List Key) : RelO (valV kvs k) ((atKey xs k).map (·.2)) := by
  induction r with
  | nil => exact True.intro
  | @cons p q ps qs h t ih =>
    obtain ⟨h1, _, h2⟩ := h
    by_cases e : p.1 = k
    · have e' : q.1 = k := h1.symm.trans e
      have b : atKey (q :: qs) k = some q.2 := by simp [atKey, List.find?_cons, e']
      rw [valV_pos e, b]; exact h2
    · have e' : ¬ q.1 = k := fun z => e (h1.trans z)
      have b : atKey (q :: qs) k = atKey qs k := by simp [atKey, List.find?_cons, e']
      rw [valV_neg e, b]; exact ih
theorem KT.repl {H : Hp} {kvs : List (List Key × V)} {xs : List (List Key × Addr × Value)} (r : KT H kvs xs) (k : List Key) {y : V} {u : Value} (ry : RelV y u) :
    KT H (kvs.map fun kv => if kv.1 = k then (kv.1, y) else kv) (xs.map (putAt k u)) := by
  induction r with
  | nil => exact .nil
  | @cons p q ps qs h t ih =>
    rw [List.map_cons, List.map_cons]
    refine .cons ?_ ih
    obtain ⟨h1, h2, h3⟩ := h
    unfold putAt
    by_cases e : p.1 = k
    · rw [if_pos e, if_pos (h1.symm.trans e)]; exact ⟨h1, h2, ry⟩
    · rw [if_neg e, if_neg (fun z => e (h1.trans z))]; exact ⟨h1, h2, h3⟩
theorem KT.put {H : Hp} {kvs : List (List Key × V)} {xs : List (List Key × Addr × Value)} (r : KT H kvs xs) (k : List Key) {b : Addr} {y : V} {u : Value} (hb : H b = some (.tup (k.map kV))) (ry : RelV y u) :
    KT H (putK kvs k y) (storedH xs k b u) := by
  have e : (kvs.any fun kv => decide (kv.1 = k)) = (atKey xs k).isSome := by
    rw [valV_any, (r.val k).isSome_eq, Option.isSome_map]
  unfold putK storedH
  rw [e]
  by_cases q : (atKey xs k).isSome = true
  · rw [if_pos q, if_pos q]; exact r.repl k ry
  · rw [if_neg q, if_neg q]; exact Paired.snoc r ⟨rfl, hb, ry⟩
theorem KT.keeps {H H' : Hp} {kvs : List (List Key × V)} {xs : List (List Key × Addr × Value)} (r : KT H kvs xs) (ht : ∀ b ys, H b = some (.tup ys) → H' b = some (.tup ys)) : KT H' kvs xs :=
  Paired.mapP r fun _ _ z => ⟨z.1, ht _ _ z.2.1, z.2.2⟩
section
variable {P : Program} {w : World} {H : Hp} {h : Heap} {a : Addr}
theorem rd_of {u : HO} (ok : HOk P w H h) (e : Rd H a u) : ObjOk P w H h a u := e.ok ok
theorem dk_rd {kvs : List (Key × V)} (ok : HOk P w H h) (e : Rd H a (.dK kvs)) : kvs.length ≤ sizeLine ∧ (a == sysModules) = false ∧ ∃ vs, KV kvs vs ∧ h.DictOf (mixKind P w) a vs :=
  show ObjOk P w H h a (.dK kvs) from rd_of ok e
theorem dk_of {kvs : List (Key × V)} (ok : HOk P w H h) (e : H a = some (.dK kvs)) : kvs.length ≤ sizeLine ∧ (a == sysModules) = false ∧ ∃ vs, KV kvs vs ∧ h.DictOf (mixKind P w) a vs := dk_rd ok (.inl e)
theorem key_of {ks : List Key} (ok : HOk P w H h) (e : H a = some (.tup (ks.map kV))) : (tupleKind (mixKind P w)).is h ks a := by
  obtain ⟨_, its, r, o, h1, h2, n, h3⟩ := (show ObjOk P w H h a (.tup (ks.map kV)) from ok a _ e)
  exact ⟨o, its.toArray, n, h1, h2, h3, by simpa using items_are r⟩
theorem dt_rd {kvs : List (List Key × V)} (ok : HOk P w H h) (e : Rd H a (.dT kvs)) : kvs.length ≤ sizeLine ∧ (a == sysModules) = false ∧
    ∃ xs, KT H kvs xs ∧ h.DictOfH (tupleKind (mixKind P w)) a xs := by
  obtain ⟨z, y, xs, r, o, es, ep, h1, h2, h3, h4, h5⟩ := (show ObjOk P w H h a (.dT kvs) from rd_of ok e)
  refine ⟨z, y, xs, r, o, es, ep, h1, h2, h3, h4, fun x hx => ?_, h5⟩
  have all : ∀ {l : List (List Key × V)} {m : List (List Key × Addr × Value)}, KT H l m → ∀ x ∈ m, (tupleKind (mixKind P w)).is h x.1 x.2.1 := by
    intro l m q
    induction q with
    | nil => intro x hx; exact nomatch hx
    | @cons p q ps qs hq t ih =>
      intro x hx
      rcases List.mem_cons.mp hx with e | hx
      · subst e
        exact key_of ok (by rw [← hq.1]; exact hq.2.1)
      · exact ih x hx
  exact all r x hx
theorem dt_of {kvs : List (List Key × V)} (ok : HOk P w H h) (e : H a = some (.dT kvs)) : kvs.length ≤ sizeLine ∧ (a == sysModules) = false ∧
    ∃ xs, KT H kvs xs ∧ h.DictOfH (tupleKind (mixKind P w)) a xs := dt_rd ok (.inl e)
end
def DPut (H : Hp) (a : Addr) (y v : V) (H' : Hp) : Prop :=
  (∃ kvs k, H a = some (.dK kvs) ∧ y = kV k ∧ kvs.length < sizeLine ∧ H' = upd H a (.dK (putK kvs k v))) ∨
  ∃ kvs k b, H a = some (.dT kvs) ∧ y = .ref b ∧ H b = some (.tup (k.map kV)) ∧ kvs.length < sizeLine ∧ H' = upd H a (.dT (putK kvs k v))
theorem DPut.k {H : Hp} {a : Addr} {kvs : List (Key × V)} {k : Key} {v : V} (e : H a = some (.dK kvs)) (hl : kvs.length < sizeLine) : DPut H a (kV k) v (upd H a (.dK (putK kvs k v))) := .inl ⟨kvs, k, e, rfl, hl, rfl⟩
section
variable {X : Cx} {pins : List (Addr × Obj)} {σ : St} {H : Hp} {s : Shared} {a : Addr} {y v : V} {u r : Value} {o : Option V} {A : Around} {E : Value → Shared → Prop}
theorem Inv.big (I : Inv X pins σ H s) : sysModules < s.heap.objs.size := by
  have h : mainGlobals < s.heap.objs.size := (I.mod.glob.keeps I.bk).lt
  exact Nat.lt_trans (by decide) h
theorem d_write {h' : Heap} {t' : Nat} {ob : HO} (I : Inv X pins σ H s) (mu : Mut (H a)) (hs : Heap.SameBut a s.heap h') (he : ∃ q, h'.get? a = some q) (new : ObjOk X.prog X.w (upd H a ob) h' a ob) :
    Inv X pins σ (upd H a ob) { s with heap := h', toks := t' } :=
  I.write (x := a) (e := a) mu (.inl rfl) (fun b q hb z => (hs.2 b hb).trans z) he new
theorem dk_new {P : Program} {w : World} {H' : Hp} {h' : Heap} {kvs : List (Key × V)} {vs : List (Key × Value)} (z : kvs.length ≤ sizeLine) (hd : (a == sysModules) = false) (rel : KV kvs vs) (dd : h'.DictOf (mixKind P w) a vs) :
    ObjOk P w H' h' a (.dK kvs) := ⟨z, hd, vs, rel, dd⟩
theorem d_setItem {H' : Hp} {Q : Unit → Shared → Prop} (hu : A.units + 1 < cLine) (I : Inv X pins σ H s) (g : DPut H a y v H') (ry : RelV y u) (rv : RelV v r) (h : ∀ s', Inv X pins σ H' s' → Q () s') :
    wpAny (model X.prog X.w) A (setItem (.ref a) u r) Q E s := by
  rcases g with ⟨kvs, k, e, ey, l, eH⟩ | ⟨kvs, k, b, e, ey, eb, l, eH⟩
  · subst ey eH
    obtain ⟨z, hd, vs, rel, dd⟩ := dk_of I.hok e
    have hz : vs.length ≤ sizeLine := by rw [← rel.length]; exact z
    have hl : (putK kvs k v).length ≤ sizeLine := by have := length_putK kvs k v; omega
    refine wpAny_setItem_pairs (hsz := hz) (kV_is ry) dd fun h' dd' hs => h _ ?_
    have he : ∃ q, h'.get? a = some q := let ⟨q, _, _, hq, _⟩ := dd'; ⟨q, hq⟩
    exact d_write I (by rw [e]; exact True.intro) hs he (dk_new hl hd (rel.put k rv) dd')
  · subst ey eH
    cases (show u = Value.ref b from ry)
    obtain ⟨z, hd, xs, rel, dd⟩ := dt_of I.hok e
    have hz : xs.length ≤ sizeLine := by rw [← Paired.length rel]; exact z
    have hl : (putK kvs k v).length ≤ sizeLine := by have := length_putK kvs k v; omega
    refine wpAny_setItem_heap (hsz := hz) (tupleKind_room_in1 hu) (key_of I.hok eb) dd fun h' dd' hs => h _ ?_
    obtain ⟨q, es, ep, hq, h2, h3, h4, _, h5⟩ := dd'
    refine d_write I (by rw [e]; exact True.intro) hs ⟨q, hq⟩ ⟨hl, hd, _, (rel.put k eb rv).keeps fun c ys ec => ?_, q, es, ep, hq, h2, h3, h4, h5⟩
    rw [upd_ne (ne_of ec e (fun z => nomatch z))]
    exact ec
end
section
variable {X : Cx} {pins : List (Addr × Obj)} {σ : St} {H : Hp} {s : Shared} {a : Addr} {kvs : List (Key × V)} {k : Key} {u : Value} {A : Around} {E : Value → Shared → Prop}
end
def NoSl (i : Expr) : Prop := ∀ ov iv, subscripted i false ov iv = operate [ov, iv] (getItem ov iv)
theorem subD_of {prog : Program} {w : World} {A : Around} {E : Value → Shared → Prop} {s : Shared} {env : Env} {value slice : Expr} {pos : Pos} {T id : String} {Q : Value → Shared → Prop}
    (hl : typeLookup (.type T) "__getitem__" = pure (some (.builtin id))) (hs : NoSl slice)
    (h : wpAny (model prog w) A (eval value env) (fun o s₁ => wpAny (model prog w) A (eval slice env) (fun i s₂ => s₂.TypeIs o T ∧ wpAny (model prog w) A (getItem o i) Q E s₂) E s₁) E s) :
    wpAny (model prog w) A (eval (.Subscript value slice pos) env) Q E s := by
  refine Subscript_ (wpAny_mono h (fun o s₁ h₁ => wpAny_mono h₁ (fun i s₂ h₂ => ?_) fun _ _ x => x) fun _ _ x => x)
  obtain ⟨hT, h₂⟩ := h₂
  unfold subscriptTail
  refine wpAny_bind ?_
  rw [getitemInPython_of_ne hT.not_modules]
  refine wpAny_bind (wpAny_specialOf hT hl ?_)
  have fin : wpAny (model prog w) A (subscripted slice false o i) (fun r s₃ => wpAny (model prog w) A (letTemporaryGo value o r >>= fun _ => pure r) Q E s₃) E s₂ := by
    rw [hs o i]
    exact wpAny_operating (wpAny_mono h₂ (fun r s₃ h₃ => wpAny_bind (wpAny_letTemporaryGo (wpAny_pure h₃))) fun _ _ x => x)
  first
    | exact wpAny_pure (wpAny_bind fin)
    | exact wpAny_bind (wpAny_pure (wpAny_bind fin))
    | exact wpAny_bind fin
def sDPut (td ty tv : TE) : TS := fun D σ H => tv σ H fun v H1 => td σ H1 fun x H2 => ty σ H2 fun y H3 => ∃ a H4, x = .ref a ∧ DPut H3 a y v H4 ∧ D.nx σ H4
section
variable {X : Cx} {o i e value : Expr} {pos pos' tpos : Pos} {td ty tv : TE}
theorem ps_dput (hu : X.A.units + 1 < cLine) (ho : PE X o td) (hi : PE X i ty) (hv : PE X value tv) (hs : swapsWith value (some (.Subscript o i pos')) pos.line X.env = pure false) :
    PS X (.Assign [.Subscript o i pos'] value pos) (sDPut td ty tv) := by
  intro pins s σ H D I h
  refine wpAny_Assign_Subscript (thn (hv pins s σ H _ I h) fun r s1 ⟨v, H1, I1, rv, q1⟩ => thn (ho pins s1 σ H1 _ I1 q1) fun u s2 ⟨x, H2, I2, rx, q2⟩ => thn (hi pins s2 σ H2 _ I2 q2) fun iv s3 ⟨y, H3, I3, ry, a, H4, ex, g, q3⟩ => ?_) hs
  subst ex
  obtain rfl : u = Value.ref a := rx
  exact d_setItem hu I3 g ry rv fun s4 I4 => ⟨σ, H4, I4, q3⟩
end
theorem dk_empty {P : Program} {w : World} {H : Hp} (h : Heap) (hb : sysModules < h.objs.size) : ObjOk P w H (h.push { cls := .type "dict", data := .dict #[] }) h.objs.size (.dK []) :=
  ⟨Nat.zero_le _, beq_eq_false_iff_ne.mpr (Ne.symm (Nat.ne_of_lt hb)), [], .nil, Heap.DictOf.new h⟩
def tDNewK : TE := fun _ H Q => ∀ p, H p = none → Q (.ref p) (upd H p (.dK []))
section
variable {X : Cx} {pos : Pos}
theorem pe_dnewK : PE X (.Dict [] [] pos) tDNewK := fun pins s σ H Q I h =>
  wpAny_Dict_empty ⟨.ref s.heap.objs.size, _, I.laid (a := s.heap.objs.size) (o := .dK []) (t' := s.toks) (fun _ _ q => Heap.get?_push_of_some _ q) (Nat.le_refl _) (dk_empty s.heap I.big), rfl, h _ (I.hok.fresh (Nat.le_refl _))⟩
end
def tPairs : List (TE × TE) → St → Hp → (List (V × V) → Hp → Prop) → Prop
  | [], _, H, Q => Q [] H
  | (tk, tv) :: r, σ, H, Q => tk σ H fun x H1 => tv σ H1 fun y H2 => tPairs r σ H2 fun ps H3 => Q ((x, y) :: ps) H3
abbrev VV : List (V × V) → List (Value × Value) → Prop := Paired fun p q => RelV p.1 q.1 ∧ RelV p.2 q.2
def PPs (X : Cx) (pos : Pos) (keys : List (Option Expr)) (values : List Expr) (trs : List (TE × TE)) : Prop :=
  ∀ (pins : List (Addr × Obj)) (s : Shared) (σ : St) (H : Hp) (Q : List (V × V) → Hp → Prop), Inv X pins σ H s → tPairs trs σ H Q →
    wpAny (model X.prog X.w) X.A (evalPairs (pairTrees keys values X.env pos)) (fun vs s' => ∃ ps H', Inv X pins σ H' s' ∧ VV ps vs ∧ Q ps H') X.xe s
theorem pps_nil {X : Cx} {pos : Pos} : PPs X pos [] [] [] := fun pins s σ H Q I h => pairTrees_nil_walk ⟨[], H, I, .nil, h⟩
theorem pps_cons {X : Cx} {pos : Pos} {k v : Expr} {ks : List (Option Expr)} {vs : List Expr} {tk tv : TE} {trs : List (TE × TE)} (hk : PE X k tk) (hv : PE X v tv) (hr : PPs X pos ks vs trs) :
    PPs X pos (some k :: ks) (v :: vs) ((tk, tv) :: trs) := fun pins s σ H Q I h =>
  pairTrees_cons_walk (thn (hk pins s σ H _ I h) fun u s1 ⟨x, H1, I1, rx, q1⟩ => thn (hv pins s1 σ H1 _ I1 q1) fun w2 s2 ⟨y, H2, I2, ry, q2⟩ =>
    thn (hr pins s2 σ H2 _ I2 q2) fun ws s3 ⟨ps, H3, I3, rel, q3⟩ => ⟨(x, y) :: ps, H3, I3, .cons ⟨rx, ry⟩ rel, q3⟩)
def mergeK (kvs more : List (Key × V)) : List (Key × V) := more.foldl (fun acc kv => putK acc kv.1 kv.2) kvs
theorem KV.merge : ∀ {more : List (Key × V)} {rs : List (Key × Value)} {kvs : List (Key × V)} {vs : List (Key × Value)}, KV more rs → KV kvs vs → KV (mergeK kvs more) (merged vs rs) := by
  intro more rs kvs vs r
  unfold KV at r
  induction r generalizing kvs vs with
  | nil => intro q; exact q
  | @cons p q ps qs h t ih =>
    intro r0
    have e : KV (putK kvs p.1 p.2) (stored vs q.1 q.2) := by
      have := r0.put p.1 h.2
      rw [← h.1]; exact this
    exact ih e
theorem length_mergeK : ∀ (more kvs : List (Key × V)), (mergeK kvs more).length ≤ kvs.length + more.length
  | [], kvs => by show kvs.length ≤ kvs.length + 0; omega
  | p :: r, kvs => by
    have h1 := length_mergeK r (putK kvs p.1 p.2)
    have h2 := length_putK kvs p.1 p.2
    show (mergeK (putK kvs p.1 p.2) r).length ≤ _
    rw [List.length_cons]; omega
theorem carries_of {P : Program} {w : World} : ∀ {kvs : List (Key × V)} {ws : List (Value × Value)}, VV (kvs.map fun kv => (kV kv.1, kv.2)) ws → ∃ rs, Carries (mixKind P w) ws rs ∧ KV kvs rs
  | [], _, r => by rw [List.map_nil] at r; cases r; exact ⟨[], True.intro, .nil⟩
  | p :: kvs, _, r => by
    rw [List.map_cons] at r
    cases r with
    | @cons a b as bs h t =>
      obtain ⟨rs, c, q⟩ := carries_of (P := P) (w := w) t
      obtain ⟨b1, b2⟩ := b
      exact ⟨(p.1, b2) :: rs, ⟨kV_is h.1, rfl, c⟩, .cons ⟨rfl, h.2⟩ q⟩
def tDisp (trs : List (TE × TE)) : TE := fun σ H Q => ∀ p, H p = none → tPairs trs σ (upd H p (.dK [])) fun ps H2 => H2 p = some (.dK []) ∧ ∃ kvs : List (Key × V), ps = kvs.map (fun kv => (kV kv.1, kv.2)) ∧ kvs.length ≤ 15 ∧ Q (.ref p) (upd H2 p (.dK (mergeK [] kvs)))
theorem pe_disp {X : Cx} {pos : Pos} {keys : List (Option Expr)} {values : List Expr} {trs : List (TE × TE)} (h : PPs X pos keys values trs) (hall : keys.all (·.isSome) = true) (hl : keys.length = values.length) (h0 : keys ≠ [])
    (h15 : keys.length ≤ 15) : PE X (.Dict keys values pos) (tDisp trs) := by
  intro pins s σ H Q I q
  have hn := I.hok.fresh (Nat.le_refl s.heap.objs.size)
  have I1 := I.laid (a := s.heap.objs.size) (o := .dK []) (h' := s.heap.push { cls := .type "dict", data := .dict #[] }) (t' := s.toks) (fun _ _ q => Heap.get?_push_of_some _ q) (Nat.le_refl _) (dk_empty s.heap I.big)
  refine wpAny_Dict_walk (knd := mixKind X.prog X.w) hall hl h0 h15 (thn (h pins _ σ _ _ I1 (q _ hn)) fun ws s2 ⟨ps, H2, I2, rel, e, kvs, ep, lk, q2⟩ => ?_)
  subst ep
  obtain ⟨rs, c, rk⟩ := carries_of (P := X.prog) (w := X.w) rel
  obtain ⟨z, hd, vs0, r0, dd⟩ := dk_of I2.hok e
  cases r0
  refine ⟨rs, c, dd, fun h' dd' hs => ⟨.ref s.heap.objs.size, _, ?_, rfl, q2⟩⟩
  have hz : (mergeK [] kvs).length ≤ sizeLine := by
    have h1 := length_mergeK kvs []
    rw [List.length_nil] at h1
    rw [sizeLine_eq]; omega
  have he : ∃ q, h'.get? s.heap.objs.size = some q := let ⟨q, _, _, hq, _⟩ := dd'; ⟨q, hq⟩
  exact d_write I2 (by rw [e]; exact True.intro) hs he (dk_new hz hd (rk.merge .nil) dd')
structure M1 (X : Cx) (o : Expr) (m : Str) (apos : Pos) (e : Expr) (cpos : Pos) : Prop where
  base : attributeBase o m X.env (eval o X.env) = eval o X.env
  few : ((backTo cpos (starEach [e] X.env)).all (fun x => !x.1) && (backToKw cpos (keywordEach [] X.env)).all (fun x => x.1.isSome)
    && decide (([e] : List Expr).length + ([] : List Keyword).length + (if ([] : List Keyword).isEmpty then 0 else 1) < 30)) = true
  line : (apos.endLine == cpos.line) = true
  trees : backTo cpos (starEach [e] X.env) = [(false, eval e X.env)]
def IsD (H : Hp) (a : Addr) : Prop := (∃ kvs, Rd H a (.dK kvs)) ∨ ∃ kvs, Rd H a (.dT kvs)
theorem isD_at {X : Cx} {pins : List (Addr × Obj)} {σ : St} {H : Hp} {s : Shared} {a : Addr} (I : Inv X pins σ H s) (d : IsD H a) :
    s.TypeIs (.ref a) "dict" ∧ (∀ b, Value.ref a = .ref b → ∃ ob, s.heap.get? b = some ob ∧ ob.dict = none) ∧ (a == sysModules) = false := by
  rcases d with ⟨kvs, e⟩ | ⟨kvs, e⟩
  · obtain ⟨_, hd, vs, _, dd⟩ := dk_rd I.hok e
    refine ⟨dd.typeIs, fun b q => ?_, hd⟩
    cases q
    obtain ⟨ob, _, _, h1, h2, _⟩ := dd
    exact ⟨ob, h1, h2.2.1⟩
  · obtain ⟨_, hd, xs, _, dd⟩ := dt_rd I.hok e
    refine ⟨dd.typeIs, fun b q => ?_, hd⟩
    cases q
    obtain ⟨ob, _, _, h1, h2, _⟩ := dd
    exact ⟨ob, h1, h2.2.1⟩
section
variable {X : Cx} {pins : List (Addr × Obj)} {σ : St} {H : Hp} {s : Shared} {a : Addr} {y d : V} {u r : Value} {o : Option V} {A : Around} {E : Value → Shared → Prop}
end
section
variable {X : Cx} {o e f : Expr} {apos cpos : Pos} {td ty tx : TE}
end
section
variable {X : Cx} {pins : List (Addr × Obj)} {σ : St} {H : Hp} {s : Shared} {a : Addr} {kvs : List (Key × V)} {A : Around} {E : Value → Shared → Prop}
end
section
variable {X : Cx} {pins : List (Addr × Obj)} {σ : St} {H : Hp} {s : Shared} {a : Addr} {y : V} {u : Value} {A : Around} {E : Value → Shared → Prop}
end
end L2
namespace L2
open PySem PySem.Spec PyProof.Rows
section
variable {κ : Type} [DecidableEq κ]
theorem valV_not {kvs : List (κ × V)} {k : κ} (h : valV kvs k = none) : ¬ k ∈ kvs.map (·.1) := by
  intro m
  obtain ⟨p, hp, e⟩ := List.mem_map.mp m
  have q : (kvs.any fun kv => decide (kv.1 = k)) = true := List.any_eq_true.mpr ⟨p, hp, decide_eq_true e⟩
  rw [valV_any, h] at q
  exact absurd q (by simp)
theorem nd_snoc : ∀ {l : List κ} {k : κ}, l.Nodup → ¬ k ∈ l → (l ++ [k]).Nodup
  | [], k, _, _ => by simp
  | a :: r, k, h, hk => by
    obtain ⟨h1, h2⟩ := List.nodup_cons.mp h
    show (a :: (r ++ [k])).Nodup
    refine List.nodup_cons.mpr ⟨fun m => ?_, nd_snoc h2 fun m => hk (List.mem_cons.mpr (Or.inr m))⟩
    rcases List.mem_append.mp m with q | q
    · exact h1 q
    · exact hk (List.mem_cons.mpr (Or.inl (List.mem_singleton.mp q).symm))
theorem nd_putK {kvs : List (κ × V)} {k : κ} (v : V) (hn : (kvs.map (·.1)).Nodup) (h : valV kvs k = none) : ((putK kvs k v).map (·.1)).Nodup := by
  rw [putK_new v h, List.map_append]
  exact nd_snoc hn (valV_not h)
end
end L2
namespace L2
open PySem PySem.Spec PyProof.Rows
section
variable {P : Program} {w : World} {A : Around} {X : Value → Shared → Prop} {s : Shared} {b : Array Keyed}
end
end L2
namespace L2
open PySem PySem.Spec PyProof.Rows
end L2
namespace L2
open PySem PySem.Spec PyProof.Rows
section
variable {X : Cx}
end
section
variable {X : Cx} {sc : Scope} {cl : List (Str × Addr)} {N' : List Str} {s : Shared} {H : Hp} {fp : List Addr}
end
end L2
namespace L2
open PySem PySem.Spec PyProof.Rows
theorem bd1 {α : Type} {f g : List Value → α} (h : ∀ a, f [a] = g [a]) : ∀ us : List Value, us.length = 1 → f us = g us
  | [a], _ => h a
theorem bd2 {α : Type} {f g : List Value → α} (h : ∀ a b, f [a, b] = g [a, b]) : ∀ us : List Value, us.length = 2 → f us = g us
  | [a, b], _ => h a b
theorem bd3 {α : Type} {f g : List Value → α} (h : ∀ a b c, f [a, b, c] = g [a, b, c]) : ∀ us : List Value, us.length = 3 → f us = g us
  | [a, b, c], _ => h a b c
theorem bd4 {α : Type} {f g : List Value → α} (h : ∀ a b c d, f [a, b, c, d] = g [a, b, c, d]) : ∀ us : List Value, us.length = 4 → f us = g us
  | [a, b, c, d], _ => h a b c d
theorem bd5 {α : Type} {f g : List Value → α} (h : ∀ a b c d e, f [a, b, c, d, e] = g [a, b, c, d, e]) : ∀ us : List Value, us.length = 5 → f us = g us
  | [a, b, c, d, e], _ => h a b c d e
end L2
namespace L2
open PySem PySem.Spec PyProof.Rows
abbrev NKey := Sum Key (List Key)
section
variable (P : Program) (w : World)
def ItemIs (h : Heap) : NKey → Value → Prop
  | .inl k, v => (mixKind P w).is k v = true
  | .inr l, v => ∃ d, v = .ref d ∧ IsTupleKey (mixKind P w) h l d
inductive NItems (h : Heap) : List NKey → List Value → Prop
  | nil : NItems h [] []
  | cons {k : NKey} {v : Value} {ks : List NKey} {vs : List Value} : ItemIs P w h k v → NItems h ks vs → NItems h (k :: ks) (v :: vs)
def IsNest (h : Heap) (ks : List NKey) (a : Addr) : Prop := ∃ o items n, h.get? a = some o ∧ o.cls = .type "tuple" ∧ o.data = .seq items n ∧ NItems P w h ks items.toList
def itemHash : NKey → Int
  | .inl k => (mixKind P w).hash k
  | .inr l => tupleKeyHash (mixKind P w) l
def itemDraws : NKey → Nat
  | .inl _ => 1
  | .inr l => l.length + 1
def nestHash (ks : List NKey) : Int := reduceHash (Builtin.Tuple.tupleHashOf (ks.map (itemHash P w)))
def nestDraws (ks : List NKey) : Nat := (ks.map itemDraws).sum + 1
end
section
variable {P : Program} {w : World} {A : Around} {E : Value → Shared → Prop} {s : Shared}
theorem ItemIs.inj {h : Heap} {x y : NKey} {v : Value} (hx : ItemIs P w h x v) (hy : ItemIs P w h y v) : x = y := by
  cases x with
  | inl k =>
    cases y with
    | inl k' => rw [(mixKind P w).inj _ _ _ hx hy]
    | inr l =>
      obtain ⟨d, rfl, _⟩ := hy
      have := (mixKind P w).byValue _ _ hx
      simp [carriedByValue] at this
  | inr l =>
    obtain ⟨d, rfl, h1⟩ := hx
    cases y with
    | inl k =>
      have := (mixKind P w).byValue _ _ hy
      simp [carriedByValue] at this
    | inr l' =>
      obtain ⟨d', e, h2⟩ := hy
      cases e
      rw [h1.inj h2]
theorem NItems.inj {h : Heap} {x y : List NKey} {vs : List Value} (hx : NItems P w h x vs) (hy : NItems P w h y vs) : x = y := by
  induction hx generalizing y with
  | nil => cases hy; rfl
  | cons h1 _ ih =>
    cases hy with
    | cons h2 t2 => rw [ItemIs.inj h1 h2, ih t2]
theorem IsNest.typeIs {ks : List NKey} {a : Addr} (x : IsNest P w s.heap ks a) : s.TypeIs (.ref a) "tuple" := let ⟨o, _, _, ho, hc, _⟩ := x; ⟨o, ho, hc⟩
theorem IsNest.inj {h : Heap} {a : Addr} {x y : List NKey} (hx : IsNest P w h x a) (hy : IsNest P w h y a) : x = y := by
  obtain ⟨o, items, n, ho, _, hd, hi⟩ := hx
  obtain ⟨o', items', n', ho', _, hd', hi'⟩ := hy
  obtain rfl : o = o' := Option.some.inj (ho.symm.trans ho')
  rw [hd] at hd'
  injection hd' with h1 _
  subst h1
  exact hi.inj hi'
theorem NItems.keeps {h h' : Heap} {ks : List NKey} {vs : List Value} (x : NItems P w h ks vs) (k : ∀ l d, IsTupleKey (mixKind P w) h l d → IsTupleKey (mixKind P w) h' l d) : NItems P w h' ks vs := by
  induction x with
  | nil => exact .nil
  | @cons k' v ks vs h1 _ ih =>
    refine .cons ?_ ih
    cases k' with
    | inl _ => exact h1
    | inr l => obtain ⟨d, e, h2⟩ := h1; exact ⟨d, e, k l d h2⟩
theorem IsNest.keeps {h h' : Heap} {ks : List NKey} {a d : Addr} {o : Obj} {es ep} (x : IsNest P w h ks a) (ho : h.get? d = some o) (hd : o.data = .dict es ep) (hs : Heap.SameBut d h h') : IsNest P w h' ks a := by
  obtain ⟨o', items, n, ho', hc, hd', hi⟩ := x
  have hne : a ≠ d := by
    rintro rfl
    obtain rfl : o' = o := Option.some.inj (ho'.symm.trans ho)
    rw [hd] at hd'; exact nomatch hd'
  exact ⟨o', items, n, (hs.2 a hne).trans ho', hc, hd', hi.keeps fun l d' q => q.keeps ho hd hs⟩
theorem wpAny_pyHash_nest {ks : List NKey} {a : Addr} {Q : Int → Shared → Prop} (hu : A.units + 4 < cLine) (hk : IsNest P w s.heap ks a) (h : Q (nestHash P w ks) { s with toks := s.toks + nestDraws ks }) :
    wpAny (model P w) A (pyHash (.ref a)) Q E s := by
  have hT := hk.typeIs
  have hu0 : A.units < cLine := by omega
  obtain ⟨o, items, n, ho, _, hd, hi⟩ := hk
  unfold pyHash
  first | unfold pyHashByItsType | skip
  first | refine wpAny_bind (wpAny_cRoomFor_or (.inr hu0) ?_) | skip
  refine wpAny_bind (wpAny_specialOf hT F.slot_tuple_hash.lookup ?_)
  show wpAny _ _ (if (some (Value.builtin "tuple.__hash__") == some Value.none) = true then _ else _) Q E s
  rw [if_neg (by rw [beq_builtin_none]; exact Bool.false_ne_true)]
  refine wpAny_bind (wpAny_specialOf hT F.slot_tuple_hash.lookup ?_)
  show wpAny _ _ (callSpecialIfBoundUnlessNone? (.ref a) "__hash__" _ >>= _) Q E s
  refine wpAny_bind (wpAny_callSpecialIfBoundUnlessNone?_slot hT F.slot_tuple_hash (wpAny_call_entry F.slot_tuple_hash hT F.entry_tuple_hash ?_ (F.args_tuple_hash_1 _)))
  show wpAny _ _ (Builtin.Tuple.tupleItemsOf (.ref a) >>= _) _ _ s
  refine wpAny_bind (wpAny_tupleItemsOf ho hd ?_)
  refine wpAny_bind ?_
  rw [← Array.forIn_toList]
  refine wpAny_forIn_list _
    (fun rest (b : Array Int) s' => ∃ done left, ks = done ++ left ∧ NItems P w s.heap left rest ∧ b.toList = done.map (itemHash P w) ∧ s' = { s with toks := s.toks + (done.map itemDraws).sum })
    _ ?_ ?_ _ _ ⟨[], ks, rfl, hi, rfl, rfl⟩
  · rintro x rest b s' ⟨done, left, rfl, hl, hb, rfl⟩
    cases hl with
    | @cons k _ ks' _ h1 hl' =>
      cases k with
      | inl k =>
        refine wpAny_bind ((mixKind P w).pyHash h1 ?_)
        first
          | exact wpAny_pure ⟨done ++ [.inl k], ks', by simp, hl', by simp [hb, itemHash], by simp [itemDraws, Nat.add_assoc]⟩
          | exact wpAny_bind (wpAny_pure (wpAny_pure ⟨done ++ [.inl k], ks', by simp, hl', by simp [hb, itemHash], by simp [itemDraws, Nat.add_assoc]⟩))
      | inr l =>
        obtain ⟨d, rfl, h2⟩ := h1
        refine wpAny_bind (wpAny_pyHash_tuple (knd := mixKind P w) (ks := l) ?_ h2 ?_)
        · show A.units + 1 < cLine
          omega
        first
          | exact wpAny_pure ⟨done ++ [.inr l], ks', by simp, hl', by simp [hb, itemHash], by simp [itemDraws, Nat.add_assoc]⟩
          | exact wpAny_bind (wpAny_pure (wpAny_pure ⟨done ++ [.inr l], ks', by simp, hl', by simp [hb, itemHash], by simp [itemDraws, Nat.add_assoc]⟩))
  · rintro b s' ⟨done, left, rfl, hl, hb, rfl⟩
    cases hl
    rw [List.append_nil] at h
    unfold nestDraws at h
    show wpAny _ _ (retInt (Builtin.Tuple.tupleHashOf b.toList)) _ _ _
    rw [hb]
    refine wpAny_ret_mkInt ?_
    show wpAny _ _ (if (decide (-(2 : Int) ^ 63 ≤ Builtin.Tuple.tupleHashOf (done.map (itemHash P w))) && decide (Builtin.Tuple.tupleHashOf (done.map (itemHash P w)) < 2 ^ 63)) = true then _ else _) Q E _
    unfold nestHash reduceHash at h
    by_cases hr : (decide (-(2 : Int) ^ 63 ≤ Builtin.Tuple.tupleHashOf (done.map (itemHash P w))) && decide (Builtin.Tuple.tupleHashOf (done.map (itemHash P w)) < 2 ^ 63)) = true
    · rw [if_pos hr]
      rw [if_pos hr] at h
      exact wpAny_pure (by simpa [Nat.add_assoc] using h)
    · rw [if_neg hr]
      rw [if_neg hr] at h
      exact wpAny_bind (wpAny_rule (wpAny_pure (by simpa [Nat.add_assoc] using h)))
theorem nest_eq_tree {x y : List NKey} {a b : Addr} {R : Fin → Shared → Prop} (hu : A.units < cLine) (hx : IsNest P w s.heap x a) (hy : IsNest P w s.heap y b) (sh : x.map Sum.isLeft = y.map Sum.isLeft) (h : R (.done (.ret (.bool (decide (x = y))))) s) :
    wpAny (model P w) A (Builtin.«tuple.__eq__» ⟨[.ref a, .ref b], []⟩) R E s := by
  have hTb := hy.typeIs
  obtain ⟨oa, xs, na, hoa, _, hda, hia⟩ := hx
  obtain ⟨ob, ys, nb, hob, _, hdb, hib⟩ := hy
  show wpAny _ _ (isInstance (.ref b) (.type "tuple") >>= _) _ _ s
  refine wpAny_bind (wpAny_isInstance hTb isSubtype_tuple_tuple ?_)
  simp only [Bool.not_true, Bool.false_eq_true, if_false]
  refine wpAny_bind (wpAny_tupleItemsOf hoa hda ?_)
  refine wpAny_bind (wpAny_tupleItemsOf hob hdb ?_)
  refine wpAny_bind ?_
  refine wpAny_forIn_list _
    (fun rest r s' => r.1 = none ∧ s' = s ∧ ∃ x' y' xs' ys', rest = List.zip xs' ys' ∧ NItems P w s.heap x' xs' ∧ NItems P w s.heap y' ys' ∧ x'.map Sum.isLeft = y'.map Sum.isLeft ∧ decide (x' = y') = decide (x = y) ∧ (xs'.length == ys'.length) = (xs.size == ys.size))
    _ ?_ ?_ _ _ ⟨rfl, rfl, x, y, xs.toList, ys.toList, rfl, hia, hib, sh, rfl, by simp⟩
  · rintro ⟨u, v⟩ rest r s' ⟨hr, rfl, x', y', xs', ys', hz, hx', hy', hsh, hdec, hlen⟩
    cases hx' with
    | nil => simp at hz
    | @cons k1 u' x'' xs'' h1 hx'' =>
      cases hy' with
      | nil => simp at hz
      | @cons k2 v' y'' ys'' h2 hy'' =>
        simp only [List.zip_cons_cons, List.cons.injEq, Prod.mk.injEq] at hz
        obtain ⟨⟨rfl, rfl⟩, rfl⟩ := hz
        rw [List.map_cons, List.map_cons] at hsh
        injection hsh with hs1 hs2
        have step : ∀ Q : Bool → Shared → Prop, Q (decide (k1 = k2)) s' → wpAny (model P w) A (eqBool u v) Q E s' := fun Q q => by
          cases k1 with
          | inl k1 =>
            cases k2 with
            | inl k2 =>
              refine (mixKind P w).eqBool (a := k1) (b := k2) h1 h2 ?_
              have e : decide ((Sum.inl k1 : NKey) = Sum.inl k2) = decide (k1 = k2) := by
                by_cases hk : k1 = k2
                · rw [hk]; simp
                · rw [decide_eq_false hk, decide_eq_false (fun z => hk (Sum.inl.inj z))]
              rw [← e]
              exact q
            | inr _ => simp at hs1
          | inr l1 =>
            cases k2 with
            | inl _ => simp at hs1
            | inr l2 =>
              obtain ⟨d1, rfl, g1⟩ := h1
              obtain ⟨d2, rfl, g2⟩ := h2
              refine wpAny_eqBool_tuple (knd := mixKind P w) (x := l1) (y := l2) hu g1 g2 ?_
              have e : decide ((Sum.inr l1 : NKey) = Sum.inr l2) = decide (l1 = l2) := by
                by_cases hk : l1 = l2
                · rw [hk]; simp
                · rw [decide_eq_false hk, decide_eq_false (fun z => hk (Sum.inr.inj z))]
              rw [← e]
              exact q
        refine wpAny_bind (step _ ?_)
        by_cases hk : k1 = k2
        · subst hk
          rw [decide_eq_true rfl]
          simp only [Bool.not_true, Bool.false_eq_true, if_false]
          refine wpAny_pure ⟨rfl, rfl, x'', y'', xs'', ys'', rfl, hx'', hy'', hs2, ?_, by simpa using hlen⟩
          rw [← hdec]
          by_cases hxy : x'' = y''
          · simp [hxy]
          · simp [hxy]
        · rw [decide_eq_false hk]
          simp only [Bool.not_false, if_true]
          have hf : decide (x = y) = false := by rw [← hdec]; simp [hk]
          rw [hf] at h
          exact wpAny_bind (wpAny_pure (wpAny_pure (wpAny_pure h)))
  · rintro ⟨r1, r2⟩ s' ⟨hr, rfl, x', y', xs', ys', hz, hx', hy', hsh, hdec, hlen⟩
    simp only at hr
    subst hr
    refine wpAny_pure ?_
    have hfin : (xs.size == ys.size) = decide (x = y) := by
      rw [← hdec, ← hlen]
      cases hx' with
      | nil =>
        cases hy' with
        | nil => simp
        | cons _ _ => simp
      | cons _ _ =>
        cases hy' with
        | nil => simp
        | cons _ _ => simp at hz
    show R (.done (.ret (.bool (xs.size == ys.size)))) s'
    rw [hfin]; exact h
theorem wpAny_eqBool_nest {x y : List NKey} {a b : Addr} {Q : Bool → Shared → Prop} (hu : A.units + 4 < cLine) (hx : IsNest P w s.heap x a) (hy : IsNest P w s.heap y b) (sh : x.map Sum.isLeft = y.map Sum.isLeft) (h : Q (decide (x = y)) s) :
    wpAny (model P w) A (eqBool (.ref a) (.ref b)) Q E s := by
  unfold eqBool
  try with_reducible refine wpAny_holding ?_
  show wpAny _ _ (if (Value.ref a == Value.ref b) = true then _ else _) Q E s
  by_cases hab : (Value.ref a == Value.ref b) = true
  · rw [if_pos hab]
    have e : a = b := by have := eq_of_beq hab; injection this
    subst e
    obtain rfl := hx.inj hy
    exact wpAny_bind (wpAny_rule (wpAny_pure (by simpa using h)))
  · rw [if_neg hab]
    exact wpAny_bind (wpAny_richCompare_same_room (op := .Eq) hx.typeIs hy.typeIs F.slot_tuple_eq
      (wpAny_call_entry F.slot_tuple_eq hx.typeIs F.entry_tuple_eq (nest_eq_tree (by first | exact (show A.units + 1 < cLine by omega) | exact (show A.units + 2 < cLine by omega) | exact (show A.units < cLine by omega)) hx hy sh ⟨_, rfl, (fun e => nomatch e), wpAny_truthy_bool h⟩) (F.args_tuple_eq_2 _ _)) (by omega))
theorem quiet_flat {ks : List Key} {a : Addr} {Q : Bool → Shared → Prop} (m : Nat) (hk : IsTupleKey (mixKind P w) s.heap ks a) (h : Q true s) : wpAny (model P w) A (eqIsQuiet (m + 1) (.ref a)) Q E s := by
  have hT := hk.typeIs
  obtain ⟨o, items, n, ho, _, hd, hi⟩ := hk
  unfold eqIsQuiet
  refine wpAny_bind (wpAny_specialOf hT F.slot_tuple_eq.lookup ?_)
  show wpAny _ _ (isInstance (.ref a) (.type "tuple") >>= _) _ _ s
  refine wpAny_bind (wpAny_isInstance hT isSubtype_tuple_tuple ?_)
  simp only [Bool.not_true, Bool.false_eq_true, if_false]
  refine wpAny_bind (wpAny_seqItems ho hd ?_)
  refine wpAny_bind ?_
  show wpAny _ _ (forIn items _ _) _ _ s
  rw [← Array.forIn_toList]
  refine wpAny_forIn_list _ (fun rest r s' => r.1 = none ∧ s' = s ∧ ∀ v ∈ rest, carriedByValue v = true) _ ?_ ?_ _ _ ⟨rfl, rfl, hi.byValue⟩
  · rintro v rest r s' ⟨hr, rfl, hall⟩
    rw [eqIsQuiet_byValue _ (hall v List.mem_cons_self)]
    refine wpAny_bind (wpAny_pure ?_)
    simp only [Bool.not_true, Bool.false_eq_true, if_false]
    exact wpAny_pure ⟨rfl, rfl, fun u hu' => hall u (List.mem_cons_of_mem _ hu')⟩
  · rintro ⟨r1, r2⟩ s' ⟨hr, rfl, _⟩
    simp only at hr
    subst hr
    exact wpAny_pure h
theorem quiet_nest {ks : List NKey} {a : Addr} {Q : Bool → Shared → Prop} (hk : IsNest P w s.heap ks a) (h : Q true s) : wpAny (model P w) A (eqIsQuiet 8 (.ref a)) Q E s := by
  have hT := hk.typeIs
  obtain ⟨o, items, n, ho, _, hd, hi⟩ := hk
  unfold eqIsQuiet
  refine wpAny_bind (wpAny_specialOf hT F.slot_tuple_eq.lookup ?_)
  show wpAny _ _ (isInstance (.ref a) (.type "tuple") >>= _) _ _ s
  refine wpAny_bind (wpAny_isInstance hT isSubtype_tuple_tuple ?_)
  simp only [Bool.not_true, Bool.false_eq_true, if_false]
  refine wpAny_bind (wpAny_seqItems ho hd ?_)
  refine wpAny_bind ?_
  show wpAny _ _ (forIn items _ _) _ _ s
  rw [← Array.forIn_toList]
  refine wpAny_forIn_list _ (fun rest r s' => r.1 = none ∧ s' = s ∧ ∃ left, NItems P w s.heap left rest) _ ?_ ?_ _ _ ⟨rfl, rfl, ks, hi⟩
  · rintro v rest r s' ⟨hr, rfl, left, hl⟩
    cases hl with
    | @cons k _ ks' _ h1 hl' =>
      cases k with
      | inl k =>
        rw [eqIsQuiet_byValue _ ((mixKind P w).byValue _ _ h1)]
        refine wpAny_bind (wpAny_pure ?_)
        simp only [Bool.not_true, Bool.false_eq_true, if_false]
        exact wpAny_pure ⟨rfl, rfl, ks', hl'⟩
      | inr l =>
        obtain ⟨d, rfl, h2⟩ := h1
        refine wpAny_bind (quiet_flat 6 h2 ?_)
        simp only [Bool.not_true, Bool.false_eq_true, if_false]
        exact wpAny_pure ⟨rfl, rfl, ks', hl'⟩
  · rintro ⟨r1, r2⟩ s' ⟨hr, rfl, _⟩
    simp only at hr
    subst hr
    exact wpAny_pure h
end
def nestKind (P : Program) (w : World) (sh : List Bool) : HeapKind P w (List NKey) where
  is := fun h ks a => IsNest P w h ks a ∧ ks.map Sum.isLeft = sh
  hash := nestHash P w
  draws := nestDraws
  room := fun A => A.units + 4 < cLine
  inj := fun hx hy => hx.1.inj hy.1
  keeps := fun x ho hd hs => ⟨x.1.keeps ho hd hs, x.2⟩
  pyHash := fun hu hk h => wpAny_pyHash_nest hu hk.1 h
  eqBool := fun hu hx hy h => wpAny_eqBool_nest hu hx.1 hy.1 (hx.2.trans hy.2.symm) h
  quiet := fun hk h => quiet_nest hk.1 h
end L2
namespace L2
open PySem PySem.Spec PyProof.Rows
abbrev NEnt := List NKey × Addr × V
abbrev NPair (p : NEnt) (q : List NKey × Addr × Value) : Prop := p.1 = q.1 ∧ p.2.1 = q.2.1 ∧ RelV p.2.2 q.2.2
def dN (P : Program) (w : World) (sh : List Bool) (a : Addr) (kvs : List NEnt) : HO := .ext fun h => (a == sysModules) = false ∧ kvs.length ≤ sizeLine ∧ ∃ xs, Paired NPair kvs xs ∧
  ∃ o es ep, h.get? a = some o ∧ o.ExactDict ∧ o.data = .dict es ep ∧ es.toList = xs.map (entryOfKey (nestKind P w sh)) ∧ (xs.map (·.1)).Nodup
def nval (kvs : List NEnt) (k : List NKey) : Option V := (kvs.find? fun p => decide (p.1 = k)).map (·.2.2)
section
variable {P : Program} {w : World} {H H' : Hp} {h : Heap} {a : Addr} {sh : List Bool} {kvs : List NEnt}
theorem kv_is {k : Key} {u : Value} (r : RelV (kV k) u) : (mixKind P w).is k u = true := kV_is r
theorem nval_rel {xs : List (List NKey × Addr × Value)} (r : Paired NPair kvs xs) (k : List NKey) : RelO (nval kvs k) ((atKey xs k).map (·.2)) := by
  induction r with
  | nil => exact trivial
  | @cons p q ps qs hq t ih =>
    obtain ⟨h1, h2, h3⟩ := hq
    by_cases e : p.1 = k
    · have e' : q.1 = k := h1.symm.trans e
      have b : atKey (q :: qs) k = some q.2 := by simp [atKey, List.find?_cons, e']
      have c : nval (p :: ps) k = some p.2.2 := by simp [nval, List.find?_cons, e]
      rw [c, b]; exact h3
    · have e' : ¬ q.1 = k := fun z => e (h1.trans z)
      have b : atKey (q :: qs) k = atKey qs k := by simp [atKey, List.find?_cons, e']
      have c : nval (p :: ps) k = nval ps k := by simp [nval, List.find?_cons, e]
      rw [c, b]; exact ih
end
section
variable {X : Cx}
theorem room_nest (hu : X.A.units + 6 < cLine) (sh : List Bool) : (nestKind X.prog X.w sh).room X.A.in1 := by
  show X.A.units + 1 + 4 < cLine
  omega
theorem pe_dnewN (sh : List Bool) {pos : Pos} : PE X (.Dict [] [] pos) (fun _ H Q => ∀ p, H p = none → Q (.ref p) (upd H p (dN X.prog X.w sh p []))) := fun pins s σ H Q I h => by
  refine wpAny_Dict_empty ⟨.ref s.heap.objs.size, _, I.laid (a := s.heap.objs.size) (o := dN X.prog X.w sh s.heap.objs.size []) (t' := s.toks) (fun _ _ q => Heap.get?_push_of_some _ q) (Nat.le_refl _) ?_, rfl, h _ (I.hok.fresh (Nat.le_refl _))⟩
  refine ⟨⟨beq_eq_false_iff_ne.mpr (Ne.symm (Nat.ne_of_lt I.big)), Nat.zero_le _, [], .nil, _, #[], 0, Heap.get?_push_size _ rfl, ⟨rfl, rfl, rfl⟩, rfl, rfl, List.nodup_nil⟩, ⟨_, Heap.get?_push_size _ rfl⟩, ?_⟩
  rintro g1 g2 ⟨a1, a2, xs', a3, o', es', ep', a4, a5⟩ hg
  exact ⟨a1, a2, xs', a3, o', es', ep', hg _ a4, a5⟩
end
end L2
namespace L2
open PySem PySem.Spec PyProof.Rows
def NW (K : PySem.W.Frag) (H : Hp) : NKey → V → Prop
  | .inl k, v => v = kV k
  | .inr l, v => ∃ d, v = .ref d ∧ SqT K H d (l.map kV)
def NKeyW (K : PySem.W.Frag) (H : Hp) (ks : List NKey) (a : Addr) : Prop := ∃ vs, H a = some (.tup vs) ∧ Paired (NW K H) ks vs
def KeysW (K : PySem.W.Frag) (H : Hp) (sh : List Bool) (kvs : List NEnt) : Prop := ∀ p ∈ kvs, NKeyW K H p.1 p.2.1 ∧ p.1.map Sum.isLeft = sh
section
variable {K : PySem.W.Frag} {H H' : Hp} {a : Addr} {sh : List Bool} {kvs : List NEnt}
theorem NW.same {x : NKey} {v : V} (h : NW K H x v) (s : Same H H') : NW K H' x v := by
  cases x with
  | inl _ => exact h
  | inr l => obtain ⟨d, e, h2⟩ := h; exact ⟨d, e, by
      rcases h2 with (h | ⟨o, h⟩) | h
      · exact .inl (.inl (s _ _ h))
      · exact .inl (.inr ⟨o, s _ _ h⟩)
      · exact .inr h⟩
theorem NKeyW.same {ks : List NKey} (r : NKeyW K H ks a) (s : Same H H') : NKeyW K H' ks a := by
  obtain ⟨vs, e, r⟩ := r
  refine ⟨vs, s _ _ e, ?_⟩
  clear e
  induction r with
  | nil => exact .nil
  | cons h1 _ ih => exact .cons (h1.same s) ih
theorem KeysW.same (r : KeysW K H sh kvs) (s : Same H H') : KeysW K H' sh kvs := fun p hp => ⟨(r p hp).1.same s, (r p hp).2⟩
end
section
variable {X : Cx} {pins : List (Addr × Obj)} {σ : St} {H : Hp} {s : Shared} {a : Addr} {sh : List Bool} {kvs : List NEnt}
theorem keyI {l : List Key} (I : Inv X pins σ H s) (h : SqT X.K H a (l.map kV)) : IsTupleKey (mixKind X.prog X.w) s.heap l a := by
  obtain ⟨its, r, ⟨o, h1, h2, n, h3⟩, _⟩ := I.tuple h
  exact ⟨o, its.toArray, n, h1, h2, h3, by simpa using items_are r⟩
theorem nestI {ks : List NKey} (I : Inv X pins σ H s) (e : NKeyW X.K H ks a) : IsNest X.prog X.w s.heap ks a := by
  obtain ⟨vs, e, r⟩ := e
  obtain ⟨its, rv, ⟨o, h1, h2, n, h3⟩, _⟩ := I.tuple (SqT.of e)
  refine ⟨o, its.toArray, n, h1, h2, h3, ?_⟩
  have key : ∀ {ks : List NKey} {vs : List V} {us : List Value}, Paired (NW X.K H) ks vs → Vals vs us → NItems X.prog X.w s.heap ks us := by
    intro ks vs us r
    induction r generalizing us with
    | nil => intro rv; cases rv; exact .nil
    | @cons x v xs vs h1 _ ih =>
      intro rv
      cases rv with
      | @cons _ u _ us ru rv =>
        refine .cons ?_ (ih rv)
        cases x with
        | inl k =>
          obtain rfl : v = kV k := h1
          exact kv_is ru
        | inr l =>
          obtain ⟨d, rfl, h2⟩ := h1
          obtain rfl : u = Value.ref d := ru
          exact ⟨d, rfl, keyI I h2⟩
  exact key r rv
theorem dnI (I : Inv X pins σ H s) (e : H a = some (dN X.prog X.w sh a kvs)) (kk : KeysW X.K H sh kvs) : (a == sysModules) = false ∧ kvs.length ≤ sizeLine ∧ ∃ xs, Paired NPair kvs xs ∧ s.heap.DictOfH (nestKind X.prog X.w sh) a xs := by
  obtain ⟨⟨h1, h2, xs, r, o, es, ep, g1, g2, g3, g4, g5⟩, _, _⟩ := (show ObjOk X.prog X.w H s.heap a (dN X.prog X.w sh a kvs) from I.hok a _ e)
  refine ⟨h1, h2, xs, r, o, es, ep, g1, g2, g3, g4, fun x hx => ?_, g5⟩
  have all : ∀ {l : List NEnt} {m : List (List NKey × Addr × Value)}, Paired NPair l m → (∀ p ∈ l, NKeyW X.K H p.1 p.2.1 ∧ p.1.map Sum.isLeft = sh) → ∀ x ∈ m, (nestKind X.prog X.w sh).is s.heap x.1 x.2.1 := by
    intro l m q
    induction q with
    | nil => intro _ x hx; exact nomatch hx
    | @cons p q ps qs hq t ih =>
      intro hk x hx
      rcases List.mem_cons.mp hx with e | hx
      · subst e
        have := hk p List.mem_cons_self
        rw [hq.1, hq.2.1] at this
        exact ⟨nestI I this.1, this.2⟩
      · exact ih (fun p hp => hk p (List.mem_cons_of_mem _ hp)) x hx
  exact all r kk x hx
end
section
variable {X : Cx}
def rIxW (P : Program) (w : World) (K : PySem.W.Frag) (sh : List Bool) : R2 := fun x y H Q => ∃ a r ks kvs v, x = .ref a ∧ y = .ref r ∧ H a = some (dN P w sh a kvs) ∧ KeysW K H sh kvs ∧ NKeyW K H ks r ∧ ks.map Sum.isLeft = sh ∧ nval kvs ks = some v ∧ Q v H
theorem pe_ixW {o i : Expr} {pos : Pos} {td ty : TE} (hu : X.A.units + 6 < cLine) (sh : List Bool) (ho : PE X o td) (hi : PE X i ty) (hs : NoSl i) : PE X (.Subscript o i pos) (tOp (rIxW X.prog X.w X.K sh) td ty) := by
  intro pins s σ H Q I h
  refine subD_of PySem.F.slot_dict_getitem.lookup hs (thn (ho pins s σ H _ I h) fun u s1 ⟨x, H1, I1, rx, q1⟩ => thn (hi pins s1 σ H1 _ I1 q1) fun iv s2 ⟨y, H2, I2, ry, a, r, ks, kvs, v, ex, ey, ha, kk, hk, hsh, hv, q2⟩ => ?_)
  subst ex ey
  cases rx
  cases ry
  obtain ⟨hd, hz, xs, rel, dd⟩ := dnI I2 ha kk
  refine ⟨dd.typeIs, ?_⟩
  obtain ⟨w', hw, rw'⟩ := RelO.some_of (v := v) (o := (atKey xs ks).map (·.2)) (by rw [← hv]; exact nval_rel rel ks)
  obtain ⟨p, hp, hp2⟩ := Option.map_eq_some_iff.mp hw
  refine wpAny_getItem_heap (room_nest hu sh) ⟨nestI I2 hk, hsh⟩ dd hp ?_
  rw [hp2]
  exact ⟨v, H2, I2.tok _, rw', q2⟩
def rSetW (P : Program) (w : World) (K : PySem.W.Frag) (sh : List Bool) : TSet := fun o i v H Q => ∃ a r ks kvs, o = .ref a ∧ i = .ref r ∧ H a = some (dN P w sh a kvs) ∧ KeysW K H sh kvs ∧ NKeyW K H ks r ∧ ks.map Sum.isLeft = sh ∧ nval kvs ks = none ∧ kvs.length < sizeLine ∧ Q (upd H a (dN P w sh a (kvs ++ [(ks, r, v)])))
theorem set_W (hu : X.A.units + 6 < cLine) (sh : List Bool) : PSet X (rSetW X.prog X.w X.K sh) := by
  intro pins s σ H o i v ov iv u Q I ro ri rv h
  obtain ⟨a, r, ks, kvs, rfl, rfl, ha, kk, hk, hs, hn, hl, q⟩ := h
  cases ro
  cases ri
  obtain ⟨hd, hz, xs, rel, dd⟩ := dnI I ha kk
  have hn' : atKey xs ks = none := by
    have e := (nval_rel rel ks).isSome_eq
    rw [Option.isSome_map, hn] at e
    cases g : atKey xs ks with
    | none => rfl
    | some _ => rw [g] at e; cases e
  refine wpAny_setItem_heap (hsz := by rw [← Paired.length rel]; exact hz) (room_nest hu sh) ⟨nestI I hk, hs⟩ dd fun h' dd' hsame => ?_
  rw [storedH_new hn'] at dd'
  obtain ⟨qo, es, ep, hq, h2, h3, h4, _, h5⟩ := dd'
  have φ : (a == sysModules) = false ∧ (kvs ++ [(ks, r, v)]).length ≤ sizeLine ∧ ∃ xs, Paired NPair (kvs ++ [(ks, r, v)]) xs ∧ ∃ o es ep, h'.get? a = some o ∧ o.ExactDict ∧ o.data = .dict es ep ∧ es.toList = xs.map (entryOfKey (nestKind X.prog X.w sh)) ∧ (xs.map (·.1)).Nodup :=
    ⟨hd, by rw [List.length_append]; show _ + 1 ≤ _; omega, xs ++ [(ks, r, u)], Paired.snoc rel ⟨rfl, rfl, rv⟩, qo, es, ep, hq, h2, h3, h4, h5⟩
  refine ⟨upd H a (dN X.prog X.w sh a (kvs ++ [(ks, r, v)])), d_write I (by rw [ha]; exact True.intro) hsame ⟨qo, hq⟩ ⟨φ, ⟨qo, hq⟩, ?_⟩, q⟩
  rintro g1 g2 ⟨a1, a2, xs', a3, o', es', ep', a4, a5⟩ hg
  exact ⟨a1, a2, xs', a3, o', es', ep', hg _ a4, a5⟩
end
end L2
namespace T1
open PySem PySem.Spec PyProof.Rows L2
theorem vals_ref : ∀ {fv : List V} {its : List Value}, Vals fv its → (∀ v ∈ fv, ∃ a, v = .ref a) → ∀ (i : Nat) (u : Value), its[i]? = some u → ∃ a, u = .ref a ∧ fv[i]? = some (.ref a)
  | _, _, .nil, _ => fun i u h => by simp at h
  | v :: fv, u0 :: its, .cons r t, hv => fun i u h => by
    cases i with
    | zero =>
      simp at h
      subst h
      obtain ⟨a, rfl⟩ := hv v List.mem_cons_self
      cases r
      exact ⟨a, rfl, rfl⟩
    | succ i =>
      obtain ⟨a, e1, e2⟩ := vals_ref t (fun v hv' => hv v (List.mem_cons_of_mem _ hv')) i u (by simpa using h)
      exact ⟨a, e1, by simpa using e2⟩
end T1
namespace L2
open PySem PySem.Spec PyProof.Rows
section
variable {X : Cx} {pins : List (Addr × Obj)} {σ : St} {H : Hp} {s : Shared} {a : Addr}
theorem flat_nest {l : List Key} (I : Inv X pins σ H s) (h : SqT X.K H a (l.map kV)) (P : Program) (w : World) : IsNest P w s.heap (l.map Sum.inl) a := by
  obtain ⟨its, r, ⟨o, h1, h2, n, h3⟩, _⟩ := I.tuple h
  refine ⟨o, its.toArray, n, h1, h2, h3, ?_⟩
  have key : ∀ {l : List Key} {us : List Value}, Vals (l.map kV) us → NItems P w s.heap (l.map Sum.inl) us := by
    intro l
    induction l with
    | nil => intro us rv; cases rv; exact .nil
    | cons k l ih =>
      intro us rv
      cases rv with
      | cons ru rv => exact .cons (kv_is ru) (ih rv)
  exact key r
theorem mapI {α β : Type} {f : α → β} (hf : ∀ a b, f a = f b → a = b) : ∀ {l m : List α}, l.map f = m.map f → l = m
  | [], [], _ => rfl
  | [], _ :: _, h => nomatch h
  | _ :: _, [], h => nomatch h
  | a :: l, b :: m, h => by
    rw [List.map_cons, List.map_cons] at h
    injection h with h1 h2
    rw [hf _ _ h1, mapI hf h2]
theorem inl_map {l m : List Key} : (decide ((l.map Sum.inl : List NKey) = m.map Sum.inl)) = decide (l = m) := by
  refine decide_eq_decide.mpr ⟨fun h => ?_, fun h => by rw [h]⟩
  exact mapI (fun a b e => by injection e) h
theorem sh_map (l : List Key) : (l.map Sum.inl : List NKey).map Sum.isLeft = List.replicate l.length true := by
  induction l with
  | nil => rfl
  | cons a r ih => rw [List.map_cons, List.map_cons, ih]; rfl
end
section
variable {X : Cx}
def rEqR (K : PySem.W.Frag) : R2 := fun x y H Q => ∃ (a b : Addr) (l m : List Key), x = .ref a ∧ y = .ref b ∧ SqT K H a (l.map kV) ∧ SqT K H b (m.map kV) ∧ l.length = m.length ∧ Q (.bl (decide (l = m))) H
theorem op_eqR (hu : X.A.units + 4 < cLine) : OpR X (compareOp .Eq) (rEqR X.K) := by
  intro pins s σ H x y v u Q I rx ry h
  obtain ⟨a, b, l, m, rfl, rfl, ha, hb, hl, q⟩ := h
  cases rx
  cases ry
  have hx := flat_nest I ha X.prog X.w
  have hy := flat_nest I hb X.prog X.w
  show wpAny _ _ (richCompare .Eq _ _) _ _ _
  refine wpAny_richCompare_same_room (op := .Eq) hx.typeIs hy.typeIs PySem.F.slot_tuple_eq
      (wpAny_call_entry PySem.F.slot_tuple_eq hx.typeIs PySem.F.entry_tuple_eq (nest_eq_tree (by first | exact (show X.A.units + 1 < cLine by omega) | exact (show X.A.units + 2 < cLine by omega) | exact (show X.A.units < cLine by omega)) hx hy (by rw [sh_map, sh_map, hl]) ⟨_, rfl, (fun e => nomatch e), ?_⟩) (PySem.F.args_tuple_eq_2 _ _)) (by omega)
  rw [inl_map]
  exact ⟨.bl _, H, I, rfl, q⟩
def rNotInR (K : PySem.W.Frag) : R2 := fun x y H Q => ∃ (a p : Addr) (as : List Addr) (l : List Key) (ls : List (List Key)), x = .ref a ∧ y = .ref p ∧ H p = some (.lst (as.map V.ref)) ∧ SqT K H a (l.map kV) ∧ as.length = ls.length ∧ (∀ i (h : i < as.length), SqT K H as[i] ((ls.getD i []).map kV) ∧ (ls.getD i []).length = l.length) ∧ Q (.bl (!(ls.any fun m => decide (m = l)))) H
open Classical in
theorem op_notInR (hu : X.A.units + 6 < cLine) : OpR X (compareOp .NotIn) (rNotInR X.K) := by
  intro pins s σ H x y v u Q I rx ry h
  obtain ⟨a, p, as, l, ls, rfl, rfl, hp, ha, hl, hall, q⟩ := h
  cases rx
  cases ry
  obtain ⟨its, r, pl, hz⟩ := I.list (SqL.of hp)
  have l1 := r.length
  rw [List.length_map] at l1
  have vr := T1.vals_ref r (fun v hv => by obtain ⟨b, _, rfl⟩ := List.mem_map.mp hv; exact ⟨b, rfl⟩)
  have at_i : ∀ i (hi : i < its.length), its[i] = Value.ref (as[i]'(by omega)) := fun i hi => by
    obtain ⟨b, e1, e2⟩ := vr i its[i] (by simp [hi])
    rw [e1]
    have : as[i]? = some b := by
      rw [List.getElem?_map] at e2
      cases g : as[i]? with
      | none => rw [g] at e2; cases e2
      | some c => rw [g] at e2; injection e2 with e2; injection e2 with e2; rw [e2]
    rw [List.getElem?_eq_getElem (by omega)] at this
    injection this with this
    rw [this]
  have key : ∀ i (hi : i < its.length), decide (∃ j, ∃ hj : j < its.length, its[j] = its[i] ∧ ls.getD j [] = l) = decide (ls.getD i [] = l) := fun i hi => by
    refine decide_eq_decide.mpr ⟨?_, fun g => ⟨i, hi, rfl, g⟩⟩
    rintro ⟨j, hj, ej, g⟩
    rw [at_i i hi, at_i j hj] at ej
    injection ej with ej
    have h1 := (hall i (by omega)).1
    have h2 := (hall j (by omega)).1
    rw [ej] at h2
    have e := I.tuple_inj h1 h2
    have inj : ∀ {x y : List Key}, x.map kV = y.map kV → x = y := fun {x y} h => mapI (fun a b e => by
      rcases a with a | a <;> rcases b with b | b
      · have : V.int a = V.int b := e
        injection this with this
        rw [this]
      · have : V.int a = V.str b := e
        cases this
      · have : V.str a = V.int b := e
        cases this
      · have : V.str a = V.str b := e
        injection this with this
        rw [this]) h
    rw [inj e]
    exact g
  refine SeqAt.notIn_listAt (fun w => decide (∃ j, ∃ hj : j < its.length, its[j] = w ∧ ls.getD j [] = l)) pl.isList (fun w hw => ?_) ⟨.bl _, H, I, rfl, ?_⟩
  · have hw : w ∈ its := by simpa using hw
    obtain ⟨i, hi, rfl⟩ := List.mem_iff_getElem.mp hw
    show SeqAt.EqAt X.A.in1 s its[i] _ (decide _)
    rw [key i hi, at_i i hi]
    intro P w E Q' hq
    obtain ⟨h1, h2⟩ := hall i (by omega)
    refine wpAny_eqBool_nest (x := (ls.getD i []).map Sum.inl) (y := l.map Sum.inl) (by show X.A.units + 1 + 4 < cLine; omega) (flat_nest I h1 P w) (flat_nest I ha P w) (by rw [sh_map, sh_map, h2]) ?_
    rw [inl_map]
    exact hq
  · have e : its.toArray.any (fun w => decide (∃ j, ∃ hj : j < its.length, its[j] = w ∧ ls.getD j [] = l)) = ls.any fun m => decide (m = l) := by
      rw [Bool.eq_iff_iff]
      simp only [List.any_toArray, List.any_eq_true]
      constructor
      · rintro ⟨w, hw, hq⟩
        obtain ⟨j, hj, _, g⟩ := of_decide_eq_true hq
        have hj2 : j < ls.length := by omega
        exact ⟨ls.getD j [], by simp [hj2], decide_eq_true g⟩
      · rintro ⟨e, he, g⟩
        obtain ⟨j, hj, rfl⟩ := List.mem_iff_getElem.mp he
        have hj2 : j < its.length := by omega
        exact ⟨its[j], List.getElem_mem hj2, decide_eq_true ⟨j, hj2, rfl, by simpa [hj] using g⟩⟩
    rw [e]
    exact q
end
end L2
namespace L2
open PySem PySem.Spec PyProof.Rows
def dE (P : Program) (w : World) (a : Addr) (ep : Nat) (kvs : List (Key × V)) : HO := .ext fun h => (a == sysModules) = false ∧ kvs.length ≤ sizeLine ∧ ∃ vs, KV kvs vs ∧ h.DictAt (mixKind P w) a vs ep
theorem key_rel {P : Program} {w : World} {k : Key} {u : Value} (h : (mixKind P w).is k u = true) : RelV (kV k) u := by
  rcases keyIs_shape (show keyIs k u = true from h) with ⟨i, t, rfl, rfl⟩ | ⟨x, t, rfl, rfl⟩
  · exact ⟨t, rfl⟩
  · exact ⟨t, rfl⟩
theorem de_of {P : Program} {w : World} {H : Hp} {h : Heap} {a : Addr} {ep : Nat} {kvs : List (Key × V)} (ok : HOk P w H h) (e : H a = some (dE P w a ep kvs)) : (a == sysModules) = false ∧ kvs.length ≤ sizeLine ∧ ∃ vs, KV kvs vs ∧ h.DictAt (mixKind P w) a vs ep :=
  (show ObjOk P w H h a (dE P w a ep kvs) from ok a _ e).1
section
variable {X : Cx} {pins : List (Addr × Obj)} {σ : St} {H : Hp} {s : Shared} {a : Addr} {kvs : List (Key × V)}
theorem d_pin (I : Inv X pins σ H s) (e : H a = some (.dK kvs)) : ∃ ep, Inv X pins σ (upd H a (dE X.prog X.w a ep kvs)) s := by
  obtain ⟨z, hd, vs, rel, dd⟩ := dk_of I.hok e
  obtain ⟨ep, da⟩ := dd.dictAt
  obtain ⟨o, es, ho, r⟩ := id da
  refine ⟨ep, d_write (h' := s.heap) (t' := s.toks) I (by rw [e]; exact True.intro) ⟨rfl, fun _ _ => rfl⟩ ⟨o, ho⟩ ⟨⟨hd, z, vs, rel, da⟩, ⟨o, ho⟩, ?_⟩⟩
  rintro g1 g2 ⟨a1, a2, vs', a3, o', es', a4, a5⟩ hg
  exact ⟨a1, a2, vs', a3, o', es', hg _ a4, a5⟩
end
def ItD (P : Program) (w : World) (d : Addr) (ep : Nat) (kvs : List (Key × V)) : It :=
  ⟨fun i H => H d = some (dE P w d ep kvs) ∧ i < kvs.length, fun i H x H' => H' = H ∧ ∃ p, kvs[i]? = some p ∧ x = kV p.1, fun i H => H d = some (dE P w d ep kvs) ∧ kvs.length ≤ i⟩
theorem KV.at {κ : Type} {kvs : List (κ × V)} {vs : List (κ × Value)} (r : KV kvs vs) {i : Nat} {p : κ × V} (h : kvs[i]? = some p) : ∃ u, vs[i]? = some (p.1, u) := by
  induction r generalizing i with
  | nil => simp at h
  | cons q t ih =>
    cases i with
    | zero =>
      rename_i a b _ _
      simp at h
      subst h
      exact ⟨b.2, by simp [q.1]⟩
    | succ i => exact ih (by simpa using h)
theorem turn_dict {P : Program} {w : World} {K : PySem.W.Frag} {tg : Expr} (d it : Addr) (ep : Nat) (kvs : List (Key × V)) : Turn P w K tg (ItD P w d ep kvs) [it] it (fun i h => h.IsKeyIter it d i kvs.length ep) where
  mem := by simp
  obj := fun i h st b hb => by
    have e : b = it := by simpa using hb
    subst e
    obtain ⟨o, e, c, d⟩ := st
    exact ⟨o, e, fun v z => by rw [d] at z; cases z⟩
  keep := fun i h h' st k => let ⟨o, e, r⟩ := st; ⟨o, k it (by simp) o e, r⟩
  item := by
    intro X hP hw hK hc i pins s σ H E I hf st hg
    subst hP hw hK
    obtain ⟨hq, hi⟩ := hg
    obtain ⟨_, _, vs, rel, da⟩ := de_of I.hok hq
    have hl := KV.length rel
    obtain ⟨p, hp⟩ : ∃ p, kvs[i]? = some p := ⟨kvs[i], by simp [hi]⟩
    obtain ⟨u, hu⟩ := KV.at rel hp
    obtain ⟨f0, f1, f2, f3, f4, f5⟩ := hf it (by simp)
    rw [hl] at st
    refine wpAny_pyNext_dict_item st da hu fun key h' hk st' sb => ?_
    have I1 : Inv X pins σ H { s with heap := h' } := I.turned (t' := s.toks) (fun b o hb e => (sb.2 b hb).trans e) f0 f1 f3 f4 f5
    obtain ⟨o, e, c, d⟩ := id st'
    rw [← hl] at st'
    exact ⟨key, rfl, go_of (s := { s with heap := h' }) e c d (by decide) ⟨kV p.1, H, I1, key_rel hk, ⟨rfl, p, hp, rfl⟩, st', fun b hb => (hf b hb).1⟩⟩
  done := by
    intro X hP hw hK hc i pins s σ H E I hf st hg
    subst hP hw hK
    obtain ⟨hq, hi⟩ := hg
    obtain ⟨_, _, vs, rel, da⟩ := de_of I.hok hq
    have hl := KV.length rel
    obtain ⟨f0, f1, f2, f3, f4, f5⟩ := hf it (by simp)
    rw [hl] at st
    exact wpAny_pyNext_dict_end (I.ok.hd hc) st da (by simp; omega) fun h' eb => ⟨rfl, I.turned (t' := s.toks) (fun b o hb e => eb b o hb e) f0 f1 f3 f4 f5⟩
  self := fun A i s Q E st h => by
    refine wpAny_pyIter_slot st.typeIs PySem.F.slot_dict_keyiterator_iter (wpAny_call_entry PySem.F.slot_dict_keyiterator_iter st.typeIs PySem.F.entry_dict_keyiterator_iter ?_ (PySem.F.args_dict_keyiterator_iter_1 _))
    show wpAny _ _ (ret (.ref it)) _ _ s
    exact wpAny_pure ⟨_, rfl, "dict_keyiterator", _, st.typeIs, PySem.F.slot_dict_keyiterator_next.lookup, h⟩
section
variable {X : Cx}
end
end L2
namespace L2
open PySem PySem.Spec PyProof.Rows
theorem for_dict {P : Program} {w : World} {d : Addr} {ep : Nat} {kvs : List (Key × V)} {g : TG} {tb : TS} {D : Ends} {σ : St} {H : Hp} (Pv : Nat → St → Hp → Prop) (h0 : Pv 0 σ H) (hl : ∀ i σ H, i ≤ kvs.length → Pv i σ H → H d = some (dE P w d ep kvs))
    (hs : ∀ i p σ H, kvs[i]? = some p → Pv i σ H → g (kV p.1) σ H fun σ2 H2 => tb { D with nx := Pv (i + 1), ct := Pv (i + 1), bk := D.nx } σ2 H2) (hd : ∀ σ H, Pv kvs.length σ H → D.nx σ H) :
    ∃ W : Nat → Nat → St → Hp → Prop, (∃ m, W 0 m σ H) ∧ ∀ i m σ H, W i m σ H →
      ((ItD P w d ep kvs).stop i H ∧ D.nx σ H) ∨ ((ItD P w d ep kvs).go i H ∧ ∃ N : St → Hp → Prop, (∀ σ' H', N σ' H' → ∃ m', m' < m ∧ W (i + 1) m' σ' H') ∧ ∀ x H', (ItD P w d ep kvs).yld i H x H' → g x σ H' fun σ2 H2 => tb { D with nx := N, ct := N, bk := D.nx } σ2 H2) := by
  refine ⟨fun i m σ H => m = kvs.length - i ∧ i ≤ kvs.length ∧ Pv i σ H, ⟨kvs.length, by simp, Nat.zero_le _, h0⟩, ?_⟩
  rintro i m σ H ⟨rfl, hi, p⟩
  have q := hl i σ H hi p
  by_cases hlt : i < kvs.length
  · refine .inr ⟨⟨q, hlt⟩, Pv (i + 1), fun σ' H' p' => ⟨kvs.length - (i + 1), by omega, rfl, hlt, p'⟩, fun x H' y => ?_⟩
    obtain ⟨e, pk, y, ex⟩ := y
    subst e ex
    exact hs i pk σ _ y p
  · have e : i = kvs.length := by omega
    subst e
    exact .inl ⟨⟨q, Nat.le_refl _⟩, hd σ H p⟩
end L2
namespace L2
open PySem PySem.Spec PyProof.Rows
theorem vals_of {ys : List V} : ∀ {its : List Value}, ys.length = its.length → (∀ (j : Nat) (y : V) (v : Value), ys[j]? = some y → its[j]? = some v → RelV y v) → Vals ys its := by
  induction ys with
  | nil =>
    intro its h _
    cases its with
    | nil => exact .nil
    | cons _ _ => cases h
  | cons y r ih =>
    intro its h g
    cases its with
    | nil => cases h
    | cons u t => exact .cons (g 0 y u rfl rfl) (ih (Nat.succ.inj h) fun j a b h1 h2 => g (j + 1) a b h1 h2)
section
variable {X : Cx}
end
end L2
namespace L2
open PySem PySem.Spec PyProof.Rows
section
variable {X : Cx}
def tPin (P : Program) (w : World) (te : TE) : TE := fun σ H Q => te σ H fun x H1 => ∃ a kvs, x = .ref a ∧ H1 a = some (.dK kvs) ∧ ∀ ep, Q (.ref a) (upd H1 a (dE P w a ep kvs))
theorem pe_pin {e : Expr} {te : TE} (he : PE X e te) : PE X e (tPin X.prog X.w te) := by
  intro pins s σ H Q I h
  refine thn (he pins s σ H _ I h) fun u s1 ⟨x, H1, I1, r1, a, kvs, ex, ha, q⟩ => ?_
  subst ex
  obtain ⟨ep, I2⟩ := d_pin I1 ha
  exact ⟨.ref a, _, I2, r1, q ep⟩
def iDictE (P : Program) (w : World) (td : TE) : TI := fun σ H R => td σ H fun x H1 => ∃ a ep kvs, x = .ref a ∧ H1 a = some (dE P w a ep kvs) ∧ R (ItD P w a ep kvs) H1
theorem pi_dictE {tg l : Expr} {td : TE} (hl : PE X l td) : PI X tg l (iDictE X.prog X.w td) := by
  intro pins s σ H R I h
  refine thn (hl pins s σ H _ I h) fun v s1 ⟨x, H1, I1, r1, q1⟩ => ?_
  obtain ⟨a, ep, kvs, e, hq, q⟩ := q1
  subst e
  cases r1
  obtain ⟨hd, _, vs, rel, da⟩ := de_of I1.hok hq
  refine wpAny_pyIter_dict hd da ?_
  refine ⟨s1.heap.objs.size, [s1.heap.objs.size], _, _, _, rfl, I1.kept (t' := s1.toks) fun b o e => Heap.get?_push_of_some _ e, turn_dict a _ ep kvs, ?_, fun b hb => ?_, q⟩
  · rw [KV.length rel]
    exact ⟨_, Heap.get?_push_size _ rfl, rfl, rfl⟩
  · have e : b = s1.heap.objs.size := by simpa using hb
    subst e
    exact I1.fpOk (Nat.le_refl _) (I1.hok.fresh (Nat.le_refl _))
def tDUpd (P : Program) (w : World) (td ty : TE) : TE := fun σ H Q => td σ H fun x H1 => ∃ a, x = .ref a ∧ IsD H1 a ∧ ty σ H1 fun y H2 => ∃ o kvs ep more, y = .ref o ∧ a ≠ o ∧ H2 a = some (.dK kvs) ∧ H2 o = some (dE P w o ep more) ∧ kvs.length + more.length ≤ sizeLine ∧ Q .non (upd H2 a (.dK (mergeK kvs more)))
theorem pe_dupd {o e : Expr} {apos cpos : Pos} {td ty : TE} (ho : PE X o td) (he : PE X e ty) (m : M1 X o "update" apos e cpos) : PE X (.Call (.Attribute o "update" apos) [e] [] cpos) (tDUpd X.prog X.w td ty) := by
  intro pins s σ H Q I h
  refine wpAny_Call_method m.base m.few m.line PySem.F.plainAttrs_dict PySem.F.slot_dict_update PySem.F.type_dict_update (thn (ho pins s σ H _ I h) fun u s1 ⟨x, H1, I1, rx, a, ex, d, q1⟩ => ?_)
  subst ex
  obtain rfl : u = Value.ref a := rx
  obtain ⟨t1, t2, _⟩ := isD_at I1 d
  refine ⟨t1, t2, ?_⟩
  rw [m.trees]
  refine Calls.callWith_builtin rfl (Calls.evalArgs_plain (Calls.spliced_cons (thn (he pins s1 σ H1 _ I1 q1) fun iv s2 ⟨y, H2, I2, ry, o', kvs, ep, more, ey, hao, ha, ho', hz, q2⟩ => Calls.spliced_nil ?_)))
  subst ey
  cases ry
  obtain ⟨_, hd1, vs, rel, dd⟩ := dk_of I2.hok ha
  obtain ⟨hd2, hz2, ws, rel2, da⟩ := de_of I2.hok ho'
  have hl1 := KV.length rel
  have hl2 := KV.length rel2
  refine call_meetsIn PySem.F.slot_dict_update dd.typeIs PySem.F.entry_dict_update (PySem.F.args_dict_update_2 _ _) (meets_dict_update (mixKind X.prog X.w) a o' hao hd2) ⟨vs, ws, dd, da.dictOf, by omega, fun h' hd' ho2 hs => ?_⟩
  have hz' := length_mergeK more kvs
  have he : ∃ q, h'.get? a = some q := let ⟨q, _, _, hq, _⟩ := hd'; ⟨q, hq⟩
  exact ⟨.non, _, d_write (h' := h') (t' := s2.toks) I2 (by rw [ha]; exact True.intro) hs he (dk_new (by omega) hd1 (rel2.merge rel) hd'), rfl, q2⟩
theorem call_list_dict (hc : X.calm = true) : CallR X (.type "list") (fun xs H Q => ∃ (a : Addr) (kvs : List (Key × V)), xs = [.ref a] ∧ H a = some (.dK kvs) ∧ ∀ l, H l = none → Q (.ref l) (upd H l (.lst (kvs.map fun kv => kV kv.1)))) := by
  intro pins s σ H xs us Q I r h
  obtain ⟨a, kvs, rfl, ha, q⟩ := h
  obtain ⟨u, rfl, ru⟩ := vals1 r
  cases ru
  obtain ⟨hz, hd, vs, rel, dd⟩ := dk_of I.hok ha
  obtain ⟨ep, da⟩ := dd.dictAt
  have hl := KV.length rel
  refine PySem.W.kdl_call (PySem.W.kdl_dict (knd := mixKind X.prog X.w) (ep := ep) hd) (I.ok.hd hc) da (by omega) fun h' tk acc' c' hk hL hacc => ?_
  refine ⟨.ref _, _, I.laid (t' := tk) (o := .lst (kvs.map fun kv => kV kv.1)) hk (Nat.le_refl _) ?_, rfl, q _ (I.hok.fresh (Nat.le_refl _))⟩
  refine ⟨by rw [List.length_map]; exact hz, acc'.toList, c', vals_of (by rw [List.length_map]; have h1 := hacc.1; have h2 : acc'.toList.length = acc'.size := Array.length_toList; omega) (fun k y v h1 h2 => ?_), by simpa using hL⟩
  obtain ⟨kk, xx, e1, e2⟩ := hacc.2 k v (by rw [← Array.getElem?_toList]; exact h2)
  rw [List.getElem?_map] at h1
  cases e : kvs[k]? with
  | none => rw [e] at h1; cases h1
  | some p =>
    rw [e] at h1
    injection h1 with h1
    obtain ⟨u', hu⟩ := KV.at rel e
    rw [hu] at e1
    injection e1 with e1
    injection e1 with e1 _
    rw [← h1]
    show RelV (kV p.1) v
    rw [e1]
    exact key_rel e2
end
end L2
namespace L2
open PySem PySem.Spec PyProof.Rows
def Itr3 (lo st : Int) (n : Nat) : It := ⟨fun i _ => i < n, fun i H x H' => H' = H ∧ x = .int (lo + i * st), fun i _ => n ≤ i⟩
theorem turn_range3 {P : Program} {w : World} {K : PySem.W.Frag} {tg : Expr} (it : Addr) (lo c : Int) (n : Nat) : Turn P w K tg (Itr3 lo c n) [it] it (fun i h => IsRangeIter h it (lo + (i : Nat) * c) ((n : Int) - (i : Nat)) c) where
  mem := by simp
  obj := fun i h st b hb => by
    have e : b = it := by simpa using hb
    subst e
    exact ⟨_, st, fun v z => by
      have z' : Data.fields _ = Data.cell v := z
      cases z'⟩
  keep := fun i h h' st k => k it (by simp) _ st
  item := by
    intro X hP hw hK hc i pins s σ H E I hf st hg
    subst hP hw hK
    obtain ⟨f0, f1, f2, f3, f4, f5⟩ := hf it (by simp)
    have W := Walks.range (prog := X.prog) (w := X.w) (I.ok.hd hc) it lo c n
    refine W.item i s _ _ hg st fun v h' tk hv st' kk => ?_
    obtain ⟨t, rfl⟩ := hv
    have I1 : Inv X pins σ H { s with heap := h', toks := tk } := I.turned (fun b o hb e => kk b o (by simpa using hb) e) f0 f1 f3 f4 f5
    exact ⟨_, rfl, go_of (s := { s with heap := h', toks := tk }) (n := "range_iterator") st' rfl rfl (by decide) ⟨.int (lo + i * c), H, I1, ⟨t, rfl⟩, ⟨rfl, rfl⟩, st', fun b hb => (hf b hb).1⟩⟩
  done := by
    intro X hP hw hK hc i pins s σ H E I hf st hg
    subst hP hw hK
    obtain ⟨f0, f1, f2, f3, f4, f5⟩ := hf it (by simp)
    exact wpAny_pyNext_range_end (I.ok.hd hc) st (by have : n ≤ i := hg; omega) fun h' eb => ⟨rfl, I.turned (t' := s.toks) (fun b o hb e => eb b o hb e) f0 f1 f3 f4 f5⟩
  self := fun _ _ _ _ _ st h => wpAny_pyIter_rangeiter st h
section
variable {X : Cx} {tg : Expr}
theorem for_range3 {lo st : Int} {n : Nat} {g : TG} {tb : TS} {D : Ends} {σ : St} {H : Hp} (Pv : Nat → St → Hp → Prop) (h0 : Pv 0 σ H)
    (hs : ∀ i σ H, i < n → Pv i σ H → g (.int (lo + i * st)) σ H fun σ2 H2 => tb { D with nx := Pv (i + 1), ct := Pv (i + 1), bk := D.nx } σ2 H2) (hd : ∀ σ H, Pv n σ H → D.nx σ H) :
    ∃ W : Nat → Nat → St → Hp → Prop, (∃ m, W 0 m σ H) ∧ ∀ i m σ H, W i m σ H →
      ((Itr3 lo st n).stop i H ∧ D.nx σ H) ∨ ((Itr3 lo st n).go i H ∧ ∃ N : St → Hp → Prop, (∀ σ' H', N σ' H' → ∃ m', m' < m ∧ W (i + 1) m' σ' H') ∧ ∀ x H', (Itr3 lo st n).yld i H x H' → g x σ H' fun σ2 H2 => tb { D with nx := N, ct := N, bk := D.nx } σ2 H2) := by
  refine ⟨fun i m σ H => m = n - i ∧ i ≤ n ∧ Pv i σ H, ⟨n, by simp, Nat.zero_le _, h0⟩, ?_⟩
  rintro i m σ H ⟨rfl, hi, p⟩
  by_cases hlt : i < n
  · refine .inr ⟨hlt, Pv (i + 1), fun σ' H' p' => ⟨n - (i + 1), by omega, rfl, hlt, p'⟩, fun x H' y => ?_⟩
    obtain ⟨e, y⟩ := y
    subst e y
    exact hs i σ _ hlt p
  · have e : i = n := by omega
    subst e
    exact .inl ⟨Nat.le_refl _, hd σ H p⟩
end
end L2
namespace PySem
namespace F
end F
end PySem
namespace PySem
section
variable {prog : Program} {w : World} {A : Around} {E : Value → Shared → Prop} {s : Shared}
end
end PySem
namespace L2
open PySem PySem.Spec PyProof.Rows
theorem b_reversed : bootBuiltins "reversed" = some (.type "reversed") := by decide +kernel
end L2
namespace L2
open PySem PySem.Spec PyProof.Rows
def ItlR (K : PySem.W.Frag) (a : Addr) (xs : List V) : It := ⟨fun i H => SqL K H a xs ∧ i < xs.length, fun i H v H' => H' = H ∧ xs[xs.length - 1 - i]? = some v, fun i H => SqL K H a xs ∧ xs.length ≤ i⟩
theorem turn_revL {P : Program} {w : World} {K : PySem.W.Frag} {tg : Expr} (a it : Addr) (xs : List V) : Turn P w K tg (ItlR K a xs) [it] it (fun i h => i ≤ xs.length ∧ h.IsRevIter it a ((xs.length : Int) - 1 - (i : Int))) where
  mem := by simp
  obj := fun i h st b hb => by
    have e : b = it := by simpa using hb
    subst e
    obtain ⟨_, o, e, c, d⟩ := st
    exact ⟨o, e, fun v z => by rw [d] at z; cases z⟩
  keep := fun i h h' st k => ⟨st.1, st.2.at fun o e => k it (by simp) o e⟩
  item := by
    intro X hP hw hK hc i pins s σ H E I hf st hg
    subst hP hw hK
    obtain ⟨hq, hi⟩ := hg
    obtain ⟨its, rv, p, hz⟩ := I.list hq
    have hlt : xs.length - 1 - i < xs.length := by omega
    obtain ⟨u, hu, ru⟩ := rv.get (List.getElem?_eq_getElem hlt)
    obtain ⟨f0, f1, f2, f3, f4, f5⟩ := hf it (by simp)
    have e : (xs.length : Int) - 1 - (i : Int) = ((xs.length - 1 - i : Nat) : Int) := by omega
    have st2 := st.2
    rw [e] at st2
    refine wpAny_pyNext_rev_item st2 p.isList (x := u) (by simpa using hu) fun h' st' sb => ?_
    have I1 : Inv X pins σ H { s with heap := h' } := I.turned (t' := s.toks) (fun b o hb e => (sb.2 b hb).trans e) f0 f1 f3 f4 f5
    obtain ⟨o, e', c, d⟩ := id st'
    have e2 : ((xs.length - 1 - i : Nat) : Int) - 1 = (xs.length : Int) - 1 - ((i + 1 : Nat) : Int) := by omega
    rw [e2] at st'
    exact ⟨u, rfl, go_of (s := { s with heap := h' }) e' c d (by decide) ⟨xs[xs.length - 1 - i], H, I1, ru, ⟨rfl, List.getElem?_eq_getElem hlt⟩, ⟨by omega, st'⟩, fun b hb => (hf b hb).1⟩⟩
  done := by
    intro X hP hw hK hc i pins s σ H E I hf st hg
    subst hP hw hK
    obtain ⟨hq, hi⟩ := hg
    obtain ⟨f0, f1, f2, f3, f4, f5⟩ := hf it (by simp)
    have e : (xs.length : Int) - 1 - (i : Int) = -1 := by have := st.1; omega
    have st2 := st.2
    rw [e] at st2
    exact wpAny_pyNext_rev_end (I.ok.hd hc) st2 fun h' eb => ⟨rfl, I.turned (t' := s.toks) (fun b o hb e => eb b o hb e) f0 f1 f3 f4 f5⟩
  self := fun _ _ _ _ _ st h => wpAny_pyIter_revIter st.2 h
def iRevLst (K : PySem.W.Frag) (ta : TA) : TI := fun σ H R => ta σ H fun vs H1 => ∃ a xs, vs = [.ref a] ∧ SqL K H1 a xs ∧ R (ItlR K a xs) H1
theorem pi_revLst {X : Cx} {tg a : Expr} {ta : TA} {p pos : Pos} (hg : Gl X "reversed") (hm : X.mg "reversed" = none) (ha : PA X [a] ta) (hs : starEach [a] X.env = [(false, eval a X.env)] := by rfl) : PI X tg (.Call (.Name "reversed" p) [a] [] pos) (iRevLst X.K ta) := by
  intro pins s σ H R I h
  refine Call_ (ld_blt I hg hm b_reversed (PyProof.Rows.callWith_type1 (thn (ha pos pins s σ H _ I h) fun us s1 ⟨vs, H1, I1, r1, q1⟩ => ?_) hs rfl))
  obtain ⟨l, xs, e, hq, q⟩ := q1
  subst e
  cases r1 with
  | cons r rr =>
    cases rr
    cases r
    obtain ⟨its, rv, pl, hz⟩ := I1.list hq
    have hl := rv.length
    refine call_reversed_list pl.isList ?_
    have fpk : ∀ b ∈ [s1.heap.objs.size], FpOk X pins H1 b := fun b hb => by
      have e : b = s1.heap.objs.size := by simpa using hb
      subst e
      exact I1.fpOk (Nat.le_refl _) (I1.hok.fresh (Nat.le_refl _))
    have st : Heap.IsRevIter (s1.heap.push (revObj l ((its.toArray.size : Int) - 1))) s1.heap.objs.size l ((its.toArray.size : Int) - 1) := ⟨_, Heap.get?_push_size _ rfl, rfl, rfl⟩
    refine wpAny_pyIter_revIter st ⟨s1.heap.objs.size, [s1.heap.objs.size], _, _, H1, rfl, I1.kept (t' := s1.toks) fun b o e => Heap.get?_push_of_some _ e, turn_revL l _ xs, ⟨Nat.zero_le _, ?_⟩, fpk, q⟩
    have e : (xs.length : Int) - 1 - ((0 : Nat) : Int) = (its.toArray.size : Int) - 1 := by
      rw [List.size_toArray]; omega
    rw [e]
    exact st
theorem for_revL {K : PySem.W.Frag} {a : Addr} {xs : List V} {g : TG} {tb : TS} {D : Ends} {σ : St} {H : Hp} (Pv : Nat → St → Hp → Prop) (h0 : Pv 0 σ H) (hl : ∀ i σ H, i ≤ xs.length → Pv i σ H → SqL K H a xs)
    (hs : ∀ i x σ H, i < xs.length → xs[xs.length - 1 - i]? = some x → Pv i σ H → g x σ H fun σ2 H2 => tb { D with nx := Pv (i + 1), ct := Pv (i + 1), bk := D.nx } σ2 H2) (hd : ∀ σ H, Pv xs.length σ H → D.nx σ H) :
    ∃ W : Nat → Nat → St → Hp → Prop, (∃ m, W 0 m σ H) ∧ ∀ i m σ H, W i m σ H →
      ((ItlR K a xs).stop i H ∧ D.nx σ H) ∨ ((ItlR K a xs).go i H ∧ ∃ N : St → Hp → Prop, (∀ σ' H', N σ' H' → ∃ m', m' < m ∧ W (i + 1) m' σ' H') ∧ ∀ x H', (ItlR K a xs).yld i H x H' → g x σ H' fun σ2 H2 => tb { D with nx := N, ct := N, bk := D.nx } σ2 H2) := by
  refine ⟨fun i m σ H => m = xs.length - i ∧ i ≤ xs.length ∧ Pv i σ H, ⟨xs.length, by simp, Nat.zero_le _, h0⟩, ?_⟩
  rintro i m σ H ⟨rfl, hi, p⟩
  have q := hl i σ H hi p
  by_cases hlt : i < xs.length
  · refine .inr ⟨⟨q, hlt⟩, Pv (i + 1), fun σ' H' p' => ⟨xs.length - (i + 1), by omega, rfl, hlt, p'⟩, fun x H' y => ?_⟩
    obtain ⟨e, y⟩ := y
    subst e
    exact hs i x σ _ hlt y p
  · have e : i = xs.length := by omega
    subst e
    exact .inl ⟨⟨q, Nat.le_refl _⟩, hd σ H p⟩
end L2
namespace L2
open PySem PySem.Spec PyProof.Rows
section
variable {prog : Program} {w : World} {A : Around} {E : Value → Shared → Prop} {s : Shared}
theorem sub_ri_reversed : isSubtype (.type "range_iterator") (.type "reversed") = pure false := by rw [isSubtype_type]; kernel_rfl
theorem call_range_reversed {r : Addr} {n : Nat} {t u v : Tok} {Q : Value → Shared → Prop} (hr : IsRange s.heap r 0 (n : Int) 1 t u v) (hn : n < 4611686018427387904)
    (h : Q (.ref s.heap.objs.size) { s with heap := s.heap.push { cls := .type "range_iterator", data := .fields #[rawInt ((n : Int) - 1), rawInt n, rawInt (-1)] } }) : wpAny (model prog w) A (call (.builtin "range.__reversed__") [.ref r]) Q E s := by
  have hT : s.TypeIs (.ref r) "range" := ⟨_, hr, rfl⟩
  refine wpAny_call_entry PySem.F.slot_range_reversed hT PySem.F.entry_range_reversed ?_ (PySem.F.args_range_reversed_1 _)
  unfold Builtin.«range.__reversed__»
  refine wpAny_bind (wpAny_of_eq (a := Value.ref r) (by first | rfl | kernel_rfl) ?_)
  refine wpAny_bind ?_
  unfold Builtin.Range.rangeFields
  refine wpAny_bind (wpAny_field hr rfl (x := .int 0 t) rfl ?_)
  refine wpAny_bind (m := asInt? (.int 0 t)) (wpAny_pure ?_)
  refine wpAny_bind (wpAny_field hr rfl (x := .int (n : Int) u) rfl ?_)
  refine wpAny_bind (m := asInt? (.int (n : Int) u)) (wpAny_pure ?_)
  refine wpAny_bind (wpAny_field hr rfl (x := .int 1 v) rfl ?_)
  refine wpAny_bind ?_
  refine wpAny_pure (a := some (1 : Int)) ?_
  refine wpAny_pure (a := ((0 : Int), (n : Int), (1 : Int))) ?_
  have hsz : Builtin.Range.rangeSize 0 (n : Int) 1 = (n : Int) := by
    unfold Builtin.Range.rangeSize
    rw [if_pos (by decide)]
    split
    · rw [Int.ediv_one]; omega
    · omega
  have hN : (n : Int) < 4611686018427387904 := by omega
  have hsm : (Builtin.Range.rangeFitsLong 0 && Builtin.Range.rangeFitsLong (n : Int) && Builtin.Range.rangeFitsLong 1 && Builtin.Range.rangeFitsLong (-1) && Builtin.Range.rangeFitsLong (0 - 1) && Builtin.Range.rangeFitsLong (Builtin.Range.rangeSize 0 (n : Int) 1)) = true := by
    rw [hsz]
    have : Builtin.Range.rangeFitsLong (n : Int) = true := by
      unfold Builtin.Range.rangeFitsLong
      have e63 : (2 ^ 63 : Int) = 9223372036854775808 := by decide
      rw [e63, decide_eq_true (show -9223372036854775808 ≤ (n : Int) by omega), decide_eq_true (show (n : Int) < 9223372036854775808 by omega)]
      rfl
    rw [this]
    decide
  dsimp only
  rw [hsm]
  simp only [Bool.not_true, Bool.false_eq_true, if_false, if_true]
  unfold newFields
  refine wpAny_bind (wpAny_newObj_type ?_)
  refine wpAny_pure ⟨_, rfl, ?_⟩
  rw [hsz]
  have e : (0 : Int) + ((n : Int) - 1) * 1 = (n : Int) - 1 := by omega
  rw [e]
  exact h
theorem code_reversed_range {r : Addr} {n : Nat} {t u v : Tok} {Q₁ : Value → Shared → Prop} (hr : IsRange s.heap r 0 (n : Int) 1 t u v) (hn : n < 4611686018427387904)
    (h : Q₁ (.ref s.heap.objs.size) { s with heap := s.heap.push { cls := .type "range_iterator", data := .fields #[rawInt ((n : Int) - 1), rawInt n, rawInt (-1)] } }) :
    codeAny (model prog w) A (.call (.builtin "reversed.__new__") ⟨[.type "reversed", .ref r], []⟩) (wants Q₁ E) s := by
  have hT : s.TypeIs (.ref r) "range" := ⟨_, hr, rfl⟩
  refine codeAny_of_tree ?_
  show wpAny _ A.in1 (do checkBuiltinCall "reversed.__new__" ⟨[.type "reversed", .ref r], []⟩; again (.builtin "reversed.__new__" ⟨[.type "reversed", .ref r], []⟩)) _ _ s
  refine wpAny_bind (wpAny_of_eq (PySem.F.newCall_reversed_1 _) (wpAny_pure ⟨plainId_quiet PySem.F.plain_reversed_new _, codeAny_builtin PySem.F.entry_reversed_new ?_⟩))
  rw [Around.under_plainId PySem.F.plain_reversed_new _]
  unfold Builtin.«reversed.__new__»
  refine wpAny_bind (wpAny_of_eq (newClass_reversed _) ?_)
  try dsimp only
  refine wpAny_bind (wpAny_of_eq (a := ()) (by first | rfl | kernel_rfl) ?_)
  refine wpAny_bind (wpAny_of_eq (a := ()) (by first | rfl | kernel_rfl) ?_)
  try dsimp only
  refine wpAny_bind (wpAny_specialOf hT PySem.F.slot_range_reversed.lookup ?_)
  try dsimp only
  refine wpAny_bind (wpAny_of_eq (PySem.F.slot_range_reversed.bind _) ?_)
  try dsimp only
  first
  | rw [if_neg (show ¬ ((Value.builtin "range.__reversed__" == Value.none) = true) from Bool.false_ne_true)]
  | (show wpAny _ _ (if (Value.builtin "range.__reversed__" == Value.none) = true then _ else _) _ _ _; rw [if_neg (show ¬ ((Value.builtin "range.__reversed__" == Value.none) = true) from Bool.false_ne_true)])
  refine wpAny_bind (wpAny_rule ?_)
  refine wpAny_bind (m := runValue (.call (.builtin "range.__reversed__") ⟨[.ref r], []⟩)) (show wpAny _ _ (call (.builtin "range.__reversed__") [.ref r]) _ _ _ from call_range_reversed hr hn ?_)
  first
  | exact wpAny_pure h
  | exact wpAny_bind (wpAny_pure (wpAny_pure h))
end
def iRevR (ta : TA) : TI := fun σ H R => ta σ H fun vs H1 => ∃ n : Nat, vs = [.int (n : Int)] ∧ n < 4611686018427387904 ∧ R (Itr3 ((n : Int) - 1) (-1) n) H1
theorem pi_revRange {X : Cx} {tg b : Expr} {ta : TA} {p p1 pos pos1 : Pos} (hg : Gl X "reversed") (hm : X.mg "reversed" = none) (hg1 : Gl X "range") (hm1 : X.mg "range" = none) (ha : PA X [b] ta)
    (hs2 : starEach [b] X.env = [(false, eval b X.env)] := by rfl)
    (he : starEach [Expr.Call (.Name "range" p1) [b] [] pos1] X.env = (false, eval (Expr.Call (.Name "range" p1) [b] [] pos1) X.env) :: starEach [] X.env := by rfl) (hpl : (backTo pos (starEach [] X.env)).any (·.1) = false := by rfl) : PI X tg (.Call (.Name "reversed" p) [.Call (.Name "range" p1) [b] [] pos1] [] pos) (iRevR ta) := by
  intro pins s σ H R I h
  refine wpAny_Call_Name_kw (ld_blt I hg hm b_reversed ?_ (by decide) (by decide))
  refine PyProof.Rows.callWith_type1 ?_ he hpl
  rw [he]
  show wpAny _ _ (spliced ((false, eval _ X.env) :: backTo pos (starEach [] X.env))) _ _ s
  refine Calls.spliced_cons ?_
  refine Call_ (ld_blt I hg1 hm1 boot_range (PyProof.Rows.callWith_type1 (thn (ha pos1 pins s σ H _ I h) fun us s1 ⟨vs, H1, I1, r1, q1⟩ => ?_) hs2 rfl))
  obtain ⟨n, e, hn, q⟩ := q1
  subst e
  cases r1 with
  | cons r rr =>
    cases rr
    obtain ⟨t', rfl⟩ := r
    refine call_range_1 ?_
    refine Calls.spliced_nil ?_
    have I2 := I1.kept (t' := s1.toks + 2) (h' := s1.heap.push { cls := .type "range", data := .fields #[.int 0 s1.toks, .int (n : Int) t', .int 1 (s1.toks + 1)] }) fun b o e => Heap.get?_push_of_some _ e
    refine callType_other (U := "range_iterator") (Q₁ := fun obj s₁ => obj = .ref _ ∧ s₁ = _) (by decide +kernel) PySem.F.create_reversed ⟨_, _, PySem.F.mro_reversed⟩ PySem.F.made_reversed sub_ri_reversed (PySem.F.typeCall_reversed_1 _) (code_reversed_range (IsRange.new ..) hn ⟨rfl, rfl⟩) ?_
    rintro obj s₂ ⟨rfl, rfl⟩
    refine ⟨⟨_, Heap.get?_push_size _ rfl, rfl⟩, ?_⟩
    have st : IsRangeIter ((s1.heap.push { cls := .type "range", data := .fields #[.int 0 s1.toks, .int (n : Int) t', .int 1 (s1.toks + 1)] }).push { cls := .type "range_iterator", data := .fields #[rawInt ((n : Int) - 1), rawInt n, rawInt (-1)] }) (s1.heap.push { cls := .type "range", data := .fields #[.int 0 s1.toks, .int (n : Int) t', .int 1 (s1.toks + 1)] }).objs.size ((n : Int) - 1) (n : Int) (-1) := Heap.get?_push_size _ rfl
    refine wpAny_pyIter_rangeiter st ?_
    refine ⟨_, [_], _, _, H1, rfl, I2.kept (t' := s1.toks + 2) fun b o e => Heap.get?_push_of_some _ e, turn_range3 _ ((n : Int) - 1) (-1) n, ?_, fun b hb => ?_, q⟩
    · have e1 : ((n : Int) - 1) + ((0 : Nat) : Int) * (-1) = (n : Int) - 1 := by simp
      have e2 : ((n : Nat) : Int) - ((0 : Nat) : Int) = (n : Int) := by simp
      show IsRangeIter _ _ (((n : Int) - 1) + ((0 : Nat) : Int) * (-1)) (((n : Nat) : Int) - ((0 : Nat) : Int)) (-1)
      rw [e1, e2]
      exact st
    · have e := List.mem_singleton.mp hb
      subst e
      exact I2.fpOk (Nat.le_refl _) (I2.hok.fresh (Nat.le_refl _))
end L2
namespace L2
open PySem PySem.Spec PyProof.Rows
variable {X : Cx}
def rIndex : V → List V → Hp → VK → Prop := fun x vs H Q => ∃ (l : Addr) (xs : List V) (y : V) (j : Nat), x = .ref l ∧ vs = [y] ∧ H l = some (.lst xs) ∧ flatV y = true ∧ xs.all flatV = true ∧ j < xs.length ∧ j < 1000 ∧ (∀ v, xs[j]? = some v → eqV v y = true) ∧ (∀ m v, m < j → xs[m]? = some v → eqV v y = false) ∧ Q (.int (j : Int)) H
theorem mt_index : MtM X "list.index" rIndex := by
  intro pins s σ H x vs v us Q I rx rv h
  obtain ⟨l, xs, y, j, rfl, rfl, hH, fy, fs, hj, hjs, hit, hno, q⟩ := h
  cases rx
  obtain ⟨u, rfl, ru⟩ := rv.one
  obtain ⟨z, its, n, r, hl, e⟩ := I.lstM hH
  have hlen := r.length
  have key : ∀ m (hm : m < its.length), eqU y its[m] = eqV (xs[m]'(by omega)) y := fun m hm => by
    obtain ⟨u', h1, h2⟩ := r.get (List.getElem?_eq_getElem (show m < xs.length by omega))
    rw [List.getElem?_eq_getElem hm] at h1
    injection h1 with h1
    rw [h1]
    exact eqU_of h2 (List.all_eq_true.mp fs _ (List.getElem_mem _))
  refine call_meets F.slot_list_index ⟨_, e, rfl⟩ F.entry_list_index (F.args_list_index_2 _ _) (SeqAt.list_indexAt l its.toArray n _ _ u (eqU y) j (by rw [List.size_toArray]; omega) (by omega) ?_ ?_) ⟨e, fun w hw => mem_eqAt ru fy r fs w (by simpa using hw), ?_⟩
  · rw [List.getElem_toArray, key j (by omega)]
    exact hit _ (List.getElem?_eq_getElem hj)
  · intro m hm hmj
    rw [List.getElem_toArray, key m (by simpa using hm)]
    exact hno m _ hmj (List.getElem?_eq_getElem (by omega))
  · exact ⟨.int (j : Int), H, I.tok _, ⟨_, rfl⟩, q⟩
end L2
namespace T1
open PySem L2
def plainC (c : Nat) : Bool := decide (33 ≤ c) && decide (c ≤ 126) && !decide (c = 37)
def escD : D → Bool
  | .str x => decide (x.length ≤ 1) && (decide (x.length = 0) || plainC (x.cps.getD 0 0))
  | _ => false
def markS (x : Str) : Bool := decide (1 ≤ x.length) && decide (x.length ≤ 4) && x.cps.toList.all fun c => decide (c = 10) || plainC c
section
variable {P : Program} {w : World} {K : PySem.W.Frag} {mg : Str → Option Value} {base : Heap}
end
end T1
namespace T1
open PySem L2
section
variable {P : Program} {w : World} {K : PySem.W.Frag} {mg : Str → Option Value} {base : Heap}
instance : Inhabited D := ⟨.non⟩
end
end T1
namespace L2
open PySem PySem.Spec PyProof.Rows
end L2
namespace T1
open PySem L2
abbrev Dr := Str × Int × Str
abbrev Tg := Str × List Dr
abbrev Bk := List Tg
def drD (d : Dr) : D := .tup [.str d.1, .int d.2.1, .str d.2.2]
def tgD (t : Tg) : D := .tup [.str t.1, .tup (t.2.map drD)]
def bkD (b : Bk) : D := .tup (b.map tgD)
def DrOk (n : Int) (d : Dr) : Prop := markS d.1 = true ∧ (0 ≤ d.2.1 ∧ d.2.1 < n) ∧ markS d.2.2 = true
def TgOk (n : Int) (t : Tg) : Prop := escD (.str t.1) = true ∧ t.2.length ≤ 6 ∧ ∀ d ∈ t.2, DrOk n d
section
variable {z : Addr} {H : Hp}
theorem rep_door {v : V} {d : Dr} (r : Rep z H v (drD d)) : ∃ a, v = .ref a ∧ a ≠ z ∧ H a = some (.tup [.str d.1, .int d.2.1, .str d.2.2]) := by
  cases r with
  | tup h hz r =>
    cases r with
    | cons r1 r =>
      cases r with
      | cons r2 r =>
        cases r with
        | cons r3 r =>
          cases r
          cases r1
          cases r2
          cases r3
          exact ⟨_, rfl, hz, h⟩
theorem rep_doors {v : V} {ds : List Dr} (r : Rep z H v (.tup (ds.map drD))) : ∃ a xs, v = .ref a ∧ a ≠ z ∧ H a = some (.tup xs) ∧ xs.length = ds.length ∧ Reps z H xs (ds.map drD) := by
  cases r with
  | tup h hz r => exact ⟨_, _, rfl, hz, h, by have := r.length; simpa using this, r⟩
theorem rep_tongue {v : V} {t : Tg} (r : Rep z H v (tgD t)) : ∃ a b xs, v = .ref a ∧ a ≠ z ∧ b ≠ z ∧ H a = some (.tup [.str t.1, .ref b]) ∧ H b = some (.tup xs) ∧ xs.length = t.2.length ∧ Reps z H xs (t.2.map drD) := by
  cases r with
  | tup h hz r =>
    cases r with
    | cons r1 r =>
      cases r with
      | cons r2 r =>
        cases r
        cases r1
        obtain ⟨b, xs, rfl, hb, h2, h3, h4⟩ := rep_doors r2
        exact ⟨_, b, xs, rfl, hz, hb, h, h2, h3, h4⟩
theorem rep_book {v : V} {b : Bk} (r : Rep z H v (bkD b)) : ∃ a xs, v = .ref a ∧ a ≠ z ∧ H a = some (.tup xs) ∧ xs.length = b.length ∧ Reps z H xs (b.map tgD) := by
  cases r with
  | tup h hz r => exact ⟨_, _, rfl, hz, h, by have := r.length; simpa using this, r⟩
theorem reps_door {xs : List V} {ds : List Dr} {i : Nat} (r : Reps z H xs (ds.map drD)) (hi : i < ds.length) : Rep z H (xs.getD i .non) (drD (ds.getD i (⟨#[]⟩, 0, ⟨#[]⟩))) := by
  have := r.get (i := i) (by simpa using hi)
  simpa [hi] using this
theorem reps_tongue {xs : List V} {b : Bk} {i : Nat} (r : Reps z H xs (b.map tgD)) (hi : i < b.length) : Rep z H (xs.getD i .non) (tgD (b.getD i (⟨#[]⟩, []))) := by
  have := r.get (i := i) (by simpa using hi)
  simpa [hi] using this
end
def opensOf (ds : List Dr) : List Str := ds.map (·.1)
section
variable {P : Program} {w : World} {K : PySem.W.Frag} {mg : Str → Option Value} {base : Heap}
end
end T1
namespace T1
open PySem L2
abbrev dr0 : Dr := (⟨#[]⟩, 0, ⟨#[]⟩)
abbrev tg0 : Tg := (⟨#[]⟩, [])
def marksT (ds : List Dr) : List Str := ds.flatMap fun d => [d.1, d.2.2]
def marksB (b : Bk) : List Str := b.flatMap fun t => marksT t.2
section
variable {P : Program} {w : World} {K : PySem.W.Frag} {mg : Str → Option Value} {base : Heap}
end
end T1
namespace L2
open PySem PySem.Spec PyProof.Rows
end L2
namespace T1
open PySem L2
theorem getD_mem {α : Type} {xs : List α} {i : Nat} (d : α) (h : i < xs.length) : xs.getD i d ∈ xs := by
  have : xs.getD i d = xs[i] := by simp [h]
  rw [this]
  exact List.getElem_mem h
def escIn (es : List Str) (m : Str) : Bool := m.cps.toList.any fun c => es.any fun e => e == (⟨#[c]⟩ : Str)
def escB (b : Bk) : Bool := (marksB b).any (escIn (b.map (·.1)))
theorem inV_strs (x : Str) : ∀ es : List Str, inV (.str x) (es.map V.str) = es.any fun e => e == x
  | [] => rfl
  | e :: r => by
    have := inV_strs x r
    unfold inV at this ⊢
    rw [List.map_cons, List.any_cons, List.any_cons, this]
    rfl
theorem flat_strs (es : List Str) : (es.map V.str).all flatV = true := by
  rw [List.all_eq_true]
  intro v hv
  obtain ⟨e, _, rfl⟩ := List.mem_map.mp hv
  rfl
section
variable {P : Program} {w : World} {K : PySem.W.Frag} {mg : Str → Option Value} {base : Heap}
end
end T1
namespace L2
open PySem PySem.Spec PyProof.Rows
theorem pe_bmB {X : Cx} {sc : Scope} {cl : List (Str × Addr)} {N' : List Str} {s : Shared} {H : Hp} {fp : List Addr} {o e : Expr} {es : List Expr} {to : TE} {t : TA} {name : Str} {apos cpos : Pos} {T id : String} {r : V → List V → Hp → VK → Prop} (pa : PlainAttrs T) (slot : Slot T name id) (hty : typeOf (.builtin id) = pure (.type "method_descriptor")) (hm : MtR (X.blk sc cl N' s H fp) id r) (ho : PE (X.blk sc cl N' s H fp) o to) (ha : PA (X.blk sc cl N' s H fp) (e :: es) t)
    (hbase : attributeBase o name (X.blk sc cl N' s H fp).env (eval o (X.blk sc cl N' s H fp).env) = eval o (X.blk sc cl N' s H fp).env := by rfl)
    (hfew : ((backTo cpos (starEach (e :: es) (X.blk sc cl N' s H fp).env)).all (fun x => !x.1) && (backToKw cpos (keywordEach [] (X.blk sc cl N' s H fp).env)).all (fun x => x.1.isSome)
      && decide ((e :: es).length + ([] : List Keyword).length + (if ([] : List Keyword).isEmpty then 0 else 1) < 30)) = true := by rfl)
    (hline : (apos.endLine == cpos.line) = true := by rfl) (hs : starEach (e :: es) (X.blk sc cl N' s H fp).env = (false, eval e (X.blk sc cl N' s H fp).env) :: starEach es (X.blk sc cl N' s H fp).env := by rfl) (hplain : (backTo cpos (starEach es (X.blk sc cl N' s H fp).env)).any (·.1) = false := by rfl) :
    PE (X.blk sc cl N' s H fp) (.Call (.Attribute o name apos) (e :: es) [] cpos) (tBM X.K T r to t) := pe_bm pa slot hty hm ho ha hbase hfew hline hs hplain
end L2
namespace T1
open PySem L2
def closesT (ds : List Dr) (t : Int) : List Str := ds.filterMap fun d => if d.2.1 = t then some d.2.2 else none
def closesB (b : Bk) (t : Int) : List Str := b.flatMap fun g => closesT g.2 t
def behindB (b : Bk) (t : Nat) : Bool := (b.getD t tg0).2.any fun d => (closesB b t).any fun c => stAt d.1 c 0
section
variable {P : Program} {w : World} {K : PySem.W.Frag} {mg : Str → Option Value} {base : Heap}
end
end T1
namespace T1
open PySem L2
def bookB (b : Bk) : Bool := (b.all fun t => decide (opensOf t.2).Nodup) && !escB b && !((List.range b.length).any fun t => behindB b t)
section
variable {P : Program} {w : World} {K : PySem.W.Frag} {mg : Str → Option Value} {base : Heap}
end
end T1
namespace T1
open PySem L2
section
variable {P : Program} {w : World} {K : PySem.W.Frag} {mg : Str → Option Value} {base : Heap}
theorem flatN_nil {f : Nat → Option V} : ∀ n, (flatN (fun i => (f i).toList) n).isEmpty = (List.range n).all fun i => (f i).isNone
  | 0 => rfl
  | n + 1 => by
    rw [List.range_succ, List.all_append, ← flatN_nil n]
    simp only [flatN, List.all_cons, List.all_nil, Bool.and_true]
    cases f n <;> simp
end
end T1
namespace T1
open PySem L2
section
variable {P : Program} {w : World} {K : PySem.W.Frag} {mg : Str → Option Value} {base : Heap}
theorem escD_cases (x : Str) (h : x.length ≤ 1) : (x = Str.ofString "" ∧ escD (.str x) = true) ∨ ∃ c, x = ⟨#[c]⟩ ∧ escD (.str x) = plainC c := by
  obtain ⟨cs⟩ := x
  have h : cs.size ≤ 1 := h
  by_cases h0 : cs.size = 0
  · have : cs = #[] := Array.eq_empty_of_size_eq_zero h0
    subst this
    exact .inl ⟨by decide +kernel, by decide +kernel⟩
  · obtain ⟨c, hc⟩ := Array.size_eq_one_iff.mp (show cs.size = 1 by omega)
    subst hc
    exact .inr ⟨c, rfl, rfl⟩
end
end T1
namespace T1
open PySem L2
def Bag (z : Addr) (H : Hp) : Prop := ∃ c s : Int, H z = some (.lst [.int c, .int s])
def Aft (z : Addr) (H H' : Hp) : Prop := SameX z H H' ∧ Bag z H'
theorem Aft.trans {z : Addr} {H H1 H2 : Hp} (a : Aft z H H1) (b : Aft z H1 H2) : Aft z H H2 := ⟨a.1.trans b.1, b.2⟩
theorem Aft.same {z : Addr} {H H1 H2 : Hp} (a : Aft z H H1) (b : Same H1 H2) : Aft z H H2 := ⟨a.1.trans b.x, let ⟨c, s, h⟩ := a.2; ⟨c, s, b _ _ h⟩⟩
theorem Aft.refl {z : Addr} {H : Hp} (h : Bag z H) : Aft z H H := ⟨.refl, h⟩
inductive spTake : List V → Hp → VK → XK → Prop where
  | mk {vs : List V} {H : Hp} {Q : VK} {E : XK} (z : _) (n : Int) (c1 : vs = [.ref z, .int n]) (c2 : Bag z H) (c3 : 0 < n) (c4 : n < 1000000) (c5 : ∀ (r : Nat) H', (r : Int) < n → Aft z H H' → Q (.int r) H') : spTake vs H Q E
section
variable {P : Program} {w : World} {K : PySem.W.Frag} {mg : Str → Option Value} {base : Heap}
structure Txt2 (mg : Str → Option Value) : Prop where
  list : mg "list" = none
  set : mg "set" = none
  min : mg "min" = none
inductive spBag (K : PySem.W.Frag) : List V → Hp → VK → XK → Prop where
  | mk {vs : List V} {H : Hp} {Q : VK} {E : XK} (a : _) (ns : List Int) (i : Nat) (c1 : vs = [.ref a, .int i]) (c2 : SqL K H a (ns.map V.int)) (c3 : i ≤ 100) (c4 : ∀ p H', H p = none → Same H H' → Bag p H' → Q (.ref p) H') : spBag K vs H Q E
end
end T1
namespace T1
open PySem L2
def signsOk (x : Str) : Prop := ∀ c ∈ x.cps.toList, (decide (c = 10) || plainC c) = true
inductive spMk : List V → Hp → VK → XK → Prop where
  | mk {vs : List V} {H : Hp} {Q : VK} {E : XK} (z x : _) (c1 : vs = [.ref z, .str x]) (c2 : Bag z H) (c3 : 1 ≤ x.length) (c4 : x.length ≤ 100) (c5 : signsOk x) (c6 : ∀ m H', markS m = true → Aft z H H' → Q (.str m) H') : spMk vs H Q E
section
variable {P : Program} {w : World} {K : PySem.W.Frag} {mg : Str → Option Value} {base : Heap}
theorem str_len_append (x y : Str) : (x ++ y).length = x.length + y.length := by
  show (x.cps ++ y.cps).size = _
  rw [Array.size_append]; rfl
theorem str_list_append (x y : Str) : (x ++ y).cps.toList = x.cps.toList ++ y.cps.toList := by
  show (x.cps ++ y.cps).toList = _
  rw [Array.toList_append]
end
end T1
namespace T1
open PySem L2
def inEsc (e : Str) (d : Dr) : Bool := !(Builtin.Str.occurrences (d.1 ++ Str.ofString " " ++ d.2.2) e 0 (d.1 ++ Str.ofString " " ++ d.2.2).length 1).isEmpty
def fit1 (t o : Tg) : Bool := !((!decide (V.str t.1 = V.str (Str.ofString ""))) && o.2.any (inEsc t.1))
def fit3 (b : Bk) (d : Dr) : Bool := !((b.getD d.2.1.toNat tg0).2.any fun o => stAt o.1 d.2.2 0)
def fitT (b : Bk) (t : Tg) : Bool := b.all (fit1 t) && decide (opensOf t.2).Nodup && t.2.all (fit3 b)
def fitsB (b : Bk) : Bool := b.all (fitT b)
theorem all_of {α : Type} (xs : List α) (d : α) (p : α → Bool) (h : ∀ j, j < xs.length → p (xs.getD j d) = true) : xs.all p = true := by
  rw [List.all_eq_true]
  intro x hx
  obtain ⟨i, hi, rfl⟩ := List.mem_iff_getElem.mp hx
  have := h i hi
  simpa [hi] using this
theorem all_no {α : Type} (xs : List α) (d : α) (p : α → Bool) {i : Nat} (hi : i < xs.length) (h : p (xs.getD i d) = false) : xs.all p = false := by
  rw [List.all_eq_false]
  refine ⟨xs[i], List.getElem_mem hi, ?_⟩
  have : xs.getD i d = xs[i] := by simp [hi]
  rw [← this, h]
  simp
theorem flt_empty {α : Type} (ds : List α) (d : α) (p : α → Bool) (g : Nat → V) {n : Nat} (hn : n = ds.length) : (flatN (fun i => (if p (ds.getD i d) then some (g i) else none).toList) n).isEmpty = !(ds.any p) := by
  subst hn
  rw [flatN_nil, Bool.eq_iff_iff, List.all_eq_true, Bool.not_eq_true', List.any_eq_false]
  constructor
  · intro h x hx hp
    obtain ⟨i, hi, rfl⟩ := List.mem_iff_getElem.mp hx
    have h2 := h i (List.mem_range.mpr hi)
    have e : ds.getD i d = ds[i] := by simp [hi]
    rw [e, if_pos hp] at h2
    cases h2
  · intro h i hi
    have hi := List.mem_range.mp hi
    have h2 := h ds[i] (List.getElem_mem hi)
    have e : ds.getD i d = ds[i] := by simp [hi]
    rw [e, if_neg h2]
    rfl
theorem inEsc_iff {c : Nat} (hc : plainC c = true) (d : Dr) : inEsc ⟨#[c]⟩ d = true ↔ c ∈ d.1.cps.toList ∨ c ∈ d.2.2.cps.toList := by
  unfold inEsc
  rw [StrLaws.found_iff]
  have e : (d.1 ++ Str.ofString " " ++ d.2.2).cps.toList = d.1.cps.toList ++ [32] ++ d.2.2.cps.toList := by
    rw [str_list_append, str_list_append]
    have : (Str.ofString " ").cps.toList = [32] := by decide +kernel
    rw [this]
  have h32 : c ≠ 32 := by
    intro h
    subst h
    exact absurd hc (by decide)
  constructor
  · rintro ⟨i, h⟩
    have h2 := (StrLaws.subAt_one _ _ _).mp h
    rw [e] at h2
    have := List.mem_of_getElem? h2
    simp at this
    rcases this with h | h | h
    · exact .inl (by simpa using h)
    · exact absurd h h32
    · exact .inr (by simpa using h)
  · intro h
    have : c ∈ (d.1 ++ Str.ofString " " ++ d.2.2).cps.toList := by
      rw [e]
      simp
      rcases h with h | h
      · exact .inl (by simpa using h)
      · exact .inr (.inr (by simpa using h))
    obtain ⟨i, hi⟩ := List.mem_iff_getElem?.mp this
    exact ⟨i, (StrLaws.subAt_one _ _ _).mpr hi⟩
theorem escB_iff (b : Bk) : escB b = true ↔ ∃ t ∈ b, ∃ o ∈ b, ∃ d ∈ o.2, ∃ c, t.1 = ⟨#[c]⟩ ∧ (c ∈ d.1.cps.toList ∨ c ∈ d.2.2.cps.toList) := by
  unfold escB escIn marksB marksT
  simp only [List.any_eq_true, List.mem_flatMap, List.mem_cons, List.not_mem_nil, or_false, List.mem_map, beq_iff_eq]
  constructor
  · rintro ⟨m, ⟨o, ho, d, hd, hm⟩, c, hc, e, ⟨t, ht, rfl⟩, he⟩
    refine ⟨t, ht, o, ho, d, hd, c, he, ?_⟩
    rcases hm with rfl | rfl
    · exact .inl hc
    · exact .inr hc
  · rintro ⟨t, ht, o, ho, d, hd, c, he, h | h⟩
    · exact ⟨d.1, ⟨o, ho, d, hd, .inl rfl⟩, c, h, t.1, ⟨t, ht, rfl⟩, he⟩
    · exact ⟨d.2.2, ⟨o, ho, d, hd, .inr rfl⟩, c, h, t.1, ⟨t, ht, rfl⟩, he⟩
theorem str_empty : (Str.ofString "") = ⟨#[]⟩ := by decide +kernel
theorem fit1_no {n : Int} {b : Bk} (hb : ∀ t ∈ b, TgOk n t) : (∃ t ∈ b, b.all (fit1 t) = false) ↔ escB b = true := by
  rw [escB_iff]
  constructor
  · rintro ⟨t, ht, h⟩
    rw [List.all_eq_false] at h
    obtain ⟨o, ho, h⟩ := h
    unfold fit1 at h
    simp only [Bool.not_eq_true', Bool.not_eq_false, Bool.and_eq_true, decide_eq_false_iff_not, List.any_eq_true] at h
    obtain ⟨h1, d, hd, h2⟩ := h
    have h1' : t.1 ≠ Str.ofString "" := fun z => h1 (by rw [z])
    have hl : t.1.length ≤ 1 := by
      have := (hb t ht).1
      unfold escD at this
      simp at this
      exact this.1
    rcases escD_cases t.1 hl with ⟨ex, _⟩ | ⟨c, ex, ee⟩
    · exact absurd ex h1'
    · have hc : plainC c = true := by rw [← ee]; exact (hb t ht).1
      rw [ex] at h2
      exact ⟨t, ht, o, ho, d, hd, c, ex, (inEsc_iff hc d).mp h2⟩
  · rintro ⟨t, ht, o, ho, d, hd, c, ex, h⟩
    refine ⟨t, ht, ?_⟩
    rw [List.all_eq_false]
    refine ⟨o, ho, ?_⟩
    have hc : plainC c = true := by
      have := (hb t ht).1
      rw [ex] at this
      exact this
    unfold fit1
    simp only [Bool.not_eq_true', Bool.not_eq_false, Bool.and_eq_true, decide_eq_false_iff_not, List.any_eq_true]
    refine ⟨fun z => ?_, d, hd, ?_⟩
    · have z' : t.1 = Str.ofString "" := by injection z
      rw [ex, str_empty] at z'
      simp at z'
    · rw [ex]
      exact (inEsc_iff hc d).mpr h
theorem fit3_no {b : Bk} (hb : ∀ t ∈ b, TgOk b.length t) : (∃ t ∈ b, t.2.all (fit3 b) = false) ↔ ((List.range b.length).any fun t => behindB b t) = true := by
  unfold behindB closesB closesT
  simp only [List.any_eq_true, List.mem_range, List.mem_flatMap, List.mem_filterMap]
  constructor
  · rintro ⟨t, ht, h⟩
    rw [List.all_eq_false] at h
    obtain ⟨d, hd, h⟩ := h
    unfold fit3 at h
    simp only [Bool.not_eq_true', Bool.not_eq_false, List.any_eq_true] at h
    obtain ⟨o, ho, h⟩ := h
    obtain ⟨_, ⟨h1, h2⟩, _⟩ := (hb t ht).2.2 d hd
    refine ⟨d.2.1.toNat, by omega, o, ho, d.2.2, ⟨t, ht, d, hd, ?_⟩, h⟩
    rw [if_pos (by omega)]
  · rintro ⟨n, hn, o, ho, c, ⟨t, ht, d, hd, hdc⟩, h⟩
    split at hdc
    · rename_i e
      obtain rfl : d.2.2 = c := by simpa using hdc
      refine ⟨t, ht, ?_⟩
      rw [List.all_eq_false]
      refine ⟨d, hd, ?_⟩
      unfold fit3
      simp only [Bool.not_eq_true', Bool.not_eq_false, List.any_eq_true]
      refine ⟨o, ?_, h⟩
      rw [e]
      simpa using ho
    · cases hdc
theorem fits_book {b : Bk} (hb : ∀ t ∈ b, TgOk b.length t) : fitsB b = bookB b := by
  have h1 := fit1_no hb
  have h3 := fit3_no hb
  unfold bookB
  cases e1 : escB b with
  | true =>
    obtain ⟨t, ht, h⟩ := h1.mpr e1
    simp only [Bool.not_true, Bool.and_false, Bool.false_and]
    unfold fitsB
    rw [List.all_eq_false]
    refine ⟨t, ht, ?_⟩
    unfold fitT
    rw [h]
    simp
  | false =>
    cases e3 : ((List.range b.length).any fun t => behindB b t) with
    | true =>
      obtain ⟨t, ht, h⟩ := h3.mpr e3
      simp only [Bool.not_true, Bool.and_false]
      unfold fitsB
      rw [List.all_eq_false]
      refine ⟨t, ht, ?_⟩
      unfold fitT
      rw [h]
      simp
    | false =>
      simp only [Bool.not_false, Bool.and_true]
      unfold fitsB
      rw [Bool.eq_iff_iff, List.all_eq_true, List.all_eq_true]
      have a1 : ∀ t ∈ b, b.all (fit1 t) = true := fun t ht => by
        cases q : b.all (fit1 t) with
        | true => rfl
        | false => rw [h1.mp ⟨t, ht, q⟩] at e1; cases e1
      have a3 : ∀ t ∈ b, t.2.all (fit3 b) = true := fun t ht => by
        cases q : t.2.all (fit3 b) with
        | true => rfl
        | false => rw [h3.mp ⟨t, ht, q⟩] at e3; cases e3
      constructor
      · intro h t ht
        have := h t ht
        unfold fitT at this
        rw [a1 t ht, a3 t ht, Bool.true_and, Bool.and_true] at this
        exact this
      · intro h t ht
        unfold fitT
        rw [a1 t ht, a3 t ht, Bool.true_and, Bool.and_true]
        exact h t ht
end T1
namespace L2
open PySem PySem.Spec PyProof.Rows
def SqS (H : Hp) (a : Addr) (xs : List V) : Prop := H a = some (.tup xs) ∨ H a = some (.lst xs)
theorem SqS.same {H H' : Hp} {a : Addr} {xs : List V} (h : SqS H a xs) (s : Same H H') : SqS H' a xs := h.elim (fun h => .inl (s _ _ h)) fun h => .inr (s _ _ h)
theorem for_seq {K : PySem.W.Frag} {te te' : TE} {a : Addr} {xs : List V} {g : TG} {tb : TS} {D : Ends} {σ : St} {H : Hp} (h : SqS H a xs) (he : ∀ R : VK, R (.ref a) H → te σ H R) (he' : ∀ R : VK, R (.ref a) H → te' σ H R) (Pv : Nat → St → Hp → Prop) (h0 : Pv 0 σ H) (hl : ∀ i σ H', Pv i σ H' → Same H H')
    (hs : ∀ i x σ H, xs[i]? = some x → Pv i σ H → g x σ H fun σ2 H2 => tb { D with nx := Pv (i + 1), ct := Pv (i + 1), bk := D.nx } σ2 H2) (hd : ∀ σ H, Pv xs.length σ H → D.nx σ H) :
    tFor (fun σ H R => iTup K te σ H R ∨ iList K te' σ H R) g tb D σ H := by
  rcases h with h | h
  · exact .inl (he _ ⟨a, rfl, ⟨xs, SqT.of h⟩, for_tup (K := K) (a := a) (xs := xs) Pv h0 (fun i σ H' _ q => SqT.of (hl i σ H' q _ _ h)) hs hd⟩)
  · exact .inr (he' _ ⟨a, rfl, ⟨xs, SqL.of h⟩, for_list (K := K) (a := a) (xs := xs) Pv h0 (fun i σ H' _ q => SqL.of (hl i σ H' q _ _ h)) hs hd⟩)
theorem ix_of {K : PySem.W.Frag} {H : Hp} {a : Addr} {xs : List V} {j : Nat} {v : V} {Q : VK} (h : SqS H a xs) (hv : xs[j]? = some v) (q : Q v H) : rIx K (.ref a) (.int j) H Q := by
  rcases h with h | h
  · exact .inr (.inl ⟨a, xs, j, v, rfl, rfl, SqT.of h, atI_nat hv, q⟩)
  · exact .inl ⟨a, xs, j, v, rfl, rfl, SqL.of h, atI_nat hv, q⟩
end L2
namespace T1
open PySem L2
inductive spFits : List V → Hp → VK → XK → Prop where
  | mk {vs : List V} {H : Hp} {Q : VK} {E : XK} (z a xs b : _) (c1 : vs = [.ref a]) (c2 : SqS H a xs) (c3 : Reps z H xs (b.map tgD)) (c4 : b.length ≤ 7) (c5 : (∀ t ∈ b, TgOk b.length t)) (c6 : ∀ H', Same H H' → Q (.bl (fitsB b)) H') : spFits vs H Q E
theorem markS_len {x : Str} (h : markS x = true) : x.length ≤ 4 ∧ 1 ≤ x.length := by
  unfold markS at h
  simp only [Bool.and_eq_true, decide_eq_true_eq] at h
  omega
section
variable {P : Program} {w : World} {K : PySem.W.Frag} {mg : Str → Option Value} {base : Heap}
theorem ndDE : (["door", "escape"] : List Str).Nodup := by decide +kernel
theorem ndD : (["door"] : List Str).Nodup := by decide +kernel
theorem ndOD : (["one", "door"] : List Str).Nodup := by decide +kernel
end
end T1
namespace L2
open PySem PySem.Spec PyProof.Rows
section
variable {X : Cx}
def rCatX : R2 := fun x y H Q => ∃ a b xs ys, x = .ref a ∧ y = .ref b ∧ H a = some (.tup xs) ∧ H b = some (.tup ys) ∧ xs.length + ys.length ≤ sizeLine ∧ ∀ p H', Same H H' → H' p = some (.tup (xs ++ ys)) → Q (.ref p) H'
theorem op_catX : OpR X (binaryOp .Add) rCatX := by
  intro pins s σ H x y v u Q I rx ry h
  obtain ⟨a, b, xs, ys, rfl, rfl, ha, hb, hz, q⟩ := h
  by_cases hx : xs = []
  · subst hx
    cases rx
    cases ry
    obtain ⟨its, r1, p1, _⟩ := I.tuple (SqT.of ha)
    obtain ⟨its2, r2, p2, _⟩ := I.tuple (SqT.of hb)
    cases r1
    obtain ⟨⟨cls, dd, data, sl⟩, ho, hc, n, hd⟩ := id p1
    obtain ⟨⟨cls2, dd2, data2, sl2⟩, ho2, hc2, n2, hd2⟩ := id p2
    simp only at hc hd hc2 hd2
    subst hc hd hc2 hd2
    exact concat_meets ⟨_, ho, rfl⟩ ⟨_, ho2, rfl⟩ noFill_tuple_add seq_tuple_add PySem.F.slot_tuple_add PySem.F.entry_tuple_add (PySem.F.args_tuple_add_2 _ _)
      (tuple_addW0 a b _ its2.toArray n n2 dd dd2 sl sl2 (by simp)) ⟨ho, ho2, ⟨.ref b, H, I, rfl, q b H (Same.refl H) hb⟩⟩
  · refine op_catT pins s σ H _ _ v u Q I rx ry ⟨a, b, xs, ys, rfl, rfl, SqT.of ha, SqT.of hb, hx, hz, fun hy => ?_, fun hy p np => q p _ (Same.new np) upd_same⟩
    refine q a H (Same.refl H) ?_
    rw [hy, List.append_nil]
    exact ha
end
end L2
namespace HT
open PySem PySem.Spec PyProof.Rows L2
section
variable {prog : Program} {w : World} {A : Around} {E : Value → Shared → Prop} {s : Shared}
end
end HT
namespace L2
open PySem PySem.Spec PyProof.Rows
section
variable {X : Cx}
end
end L2
namespace L2
open PySem PySem.Spec PyProof.Rows
section
variable {X : Cx}
theorem loop_range {lo : Int} {n : Nat} {g : TG} {tr : TR} {Qe : St → Hp → Prop} {σ : St} {H : Hp} (Pv : Nat → St → Hp → Prop) (h0 : Pv 0 σ H) (hs : ∀ i σ H, i < n → Pv i σ H → g (.int (lo + i)) σ H fun σ2 H2 => tr σ2 H2 (Pv (i + 1))) (hd : ∀ σ H, Pv n σ H → Qe σ H) : tLoop (Itr lo n) g tYes tr Qe σ H := by
  refine ⟨fun i m σ H => m = n - i ∧ i ≤ n ∧ Pv i σ H, ⟨n, rfl, Nat.zero_le _, h0⟩, ?_⟩
  rintro i m σ H ⟨rfl, hi, p⟩
  by_cases hlt : i < n
  · refine .inr ⟨hlt, Pv (i + 1), fun σ' H' p' => ⟨n - (i + 1), by omega, rfl, hlt, p'⟩, fun x H' y => ?_⟩
    obtain ⟨e, y⟩ := y
    subst e y
    exact hs i σ _ hlt p
  · have e : i = n := by omega
    subst e
    exact .inl ⟨Nat.le_refl _, hd σ H p⟩
end
end L2
namespace T1
open PySem L2
def mask (a : Addr) (H : Hp) : Hp := fun x => if x = a then none else H x
theorem mask_ne {a x : Addr} {H : Hp} (h : x ≠ a) : mask a H x = H x := if_neg h
theorem mask_upd {a : Addr} {H : Hp} {o : HO} : mask a (upd H a o) = mask a H := by
  funext x
  unfold mask upd
  by_cases h : x = a
  · rw [if_pos h, if_pos h]
  · rw [if_neg h, if_neg h, if_neg h]
theorem mask_some {a x : Addr} {H : Hp} {o : HO} (h : mask a H x = some o) : x ≠ a ∧ H x = some o := by
  unfold mask at h
  by_cases e : x = a
  · rw [if_pos e] at h; cases h
  · rw [if_neg e] at h; exact ⟨e, h⟩
theorem mask_x {a z : Addr} {H H' : Hp} (s : SameX z H H') : SameX z (mask a H) (mask a H') := fun b o hb h => by
  obtain ⟨h1, h2⟩ := mask_some h
  rw [mask_ne h1]
  exact s b o hb h2
theorem mask_le {a z : Addr} {H : Hp} : SameX z (mask a H) H := fun b o _ h => (mask_some h).2
theorem mask_new {a l z : Addr} {H H' : Hp} (hl : H l = none) (s : SameX z H H') : SameX z (mask a H) (mask l H') := fun b o hb h => by
  obtain ⟨h1, h2⟩ := mask_some h
  rw [mask_ne (ne_of_none h2 hl)]
  exact s b o hb h2
theorem Reps.set {z : Addr} {H : Hp} {v : V} {d : D} (r : Rep z H v d) : ∀ {vs : List V} {ds : List D} (i : Nat), Reps z H vs ds → Reps z H (vs.set i v) (ds.set i d)
  | _, _, _, .nil => .nil
  | _, _, 0, .cons _ t => .cons r t
  | _, _, i + 1, .cons h t => .cons h (Reps.set r i t)
theorem Reps.append {z : Addr} {H : Hp} : ∀ {vs ws : List V} {ds es : List D}, Reps z H vs ds → Reps z H ws es → Reps z H (vs ++ ws) (ds ++ es)
  | _, _, _, _, .nil, h => h
  | _, _, _, _, .cons a t, h => .cons a (Reps.append t h)
def LBk (z a : Addr) (b : Bk) (H : Hp) : Prop := a ≠ z ∧ ∃ vs, H a = some (.lst vs) ∧ Reps z (mask a H) vs (b.map tgD)
theorem LBk.aft {z a : Addr} {b : Bk} {H H' : Hp} (L : LBk z a b H) (s : SameX z H H') : LBk z a b H' := by
  obtain ⟨ha, vs, h, r⟩ := L
  exact ⟨ha, vs, s _ _ ha h, r.mono (mask_x s)⟩
theorem Bag.ne {z p : Addr} {H : Hp} (h : Bag z H) (np : H p = none) : p ≠ z := by
  obtain ⟨c, s, e⟩ := h
  exact (ne_of_none e np).symm
theorem Bag.neT {z p : Addr} {H : Hp} {xs : List V} (h : Bag z H) (np : H p = some (.tup xs)) : p ≠ z := by
  obtain ⟨c, s, e⟩ := h
  exact ne_of np e (by intro q; cases q)
theorem Aft.new {z p : Addr} {H H' : Hp} {o : HO} (a : Aft z H H') (np : H' p = none) : Aft z H (upd H' p o) := a.same (Same.new np)
theorem Aft.upd {z p : Addr} {H H' : Hp} {o : HO} (a : Aft z H H') (np : H p = none) (hp : p ≠ z) : Aft z H (L2.upd H' p o) := by
  refine ⟨fun b u hb e => ?_, ?_⟩
  · rw [upd_ne (ne_of_none e np)]
    exact a.1 b u hb e
  · obtain ⟨c, s, e⟩ := a.2
    exact ⟨c, s, by rw [upd_ne hp.symm]; exact e⟩
def BkOk (b : Bk) : Prop := 1 ≤ b.length ∧ b.length ≤ 6 ∧ (∀ t ∈ b, TgOk b.length t) ∧ bookB b = true
inductive spBook : List V → Hp → VK → XK → Prop where
  | mk {vs : List V} {H : Hp} {Q : VK} {E : XK} (z : _) (c1 : vs = [.ref z]) (c2 : Bag z H) (c3 : ∀ v b H', Aft z H H' → Rep z H' v (bkD b) → BkOk b → Q v H') : spBook vs H Q E
theorem pickH {H : Hp} {p : Addr} {l : List V} (h : H p = some (.lst l)) {r : Nat} (hr : r < l.length) : ∃ x, l[r]? = some x ∧ x ∈ l := ⟨l[r], by simp [hr], List.getElem_mem hr⟩
theorem Aft.none {z p : Addr} {H H' : Hp} (a : Aft z H H') (np : H' p = none) : H p = none := by
  cases e : H p with
  | none => rfl
  | some o =>
    rw [a.1 p o (a.2.ne np) e] at np
    cases np
theorem ixN_nat {n j : Nat} (h : j < n) : ixN n (j : Int) = some j := by
  unfold ixN
  rw [if_pos (by omega), if_pos (by omega)]
  simp
theorem fits_empty {b : Bk} (h : ∀ t ∈ b, t.2 = []) : fitsB b = true := by
  unfold fitsB
  rw [List.all_eq_true]
  intro t ht
  unfold fitT
  rw [h t ht]
  have : b.all (fit1 t) = true := by
    rw [List.all_eq_true]
    intro o ho
    unfold fit1
    rw [h o ho]
    simp
  rw [this]
  rfl
section
variable {P : Program} {w : World} {K : PySem.W.Frag} {mg : Str → Option Value} {base : Heap}
theorem ndTBE : (["tongue", "bag", "escapes"] : List Str).Nodup := by decide +kernel
end
end T1
namespace T1
open PySem L2
theorem Bag.same {z : Addr} {H H' : Hp} (h : Bag z H) (s : Same H H') : Bag z H' := let ⟨c, e, q⟩ := h; ⟨c, e, s _ _ q⟩
theorem Reps.take {z : Addr} {H : Hp} : ∀ {vs : List V} {ds : List D} (k : Nat), Reps z H vs ds → Reps z H (vs.take k) (ds.take k)
  | _, _, 0, _ => by simpa using Reps.nil
  | _, _, k + 1, .nil => by simpa using Reps.nil
  | _, _, k + 1, .cons a t => .cons a (Reps.take k t)
theorem Reps.drop {z : Addr} {H : Hp} : ∀ {vs : List V} {ds : List D} (k : Nat), Reps z H vs ds → Reps z H (vs.drop k) (ds.drop k)
  | _, _, 0, h => h
  | _, _, k + 1, .nil => by simpa using Reps.nil
  | _, _, k + 1, .cons a t => Reps.drop k t
section
variable {z : Addr}
theorem get_of {xs : List V} {r : Nat} (h : r < xs.length) : xs[r]? = some (xs.getD r .non) := by simp [h]
theorem big1000 : (1000 : Nat) ≤ sizeLine := by rw [sizeLine_eq]; decide
end
section
variable {X : Cx} {es : List Expr} {te : TE} {t : TA}
theorem pa_K {c : Const} {k : Nat} {pos : Pos} (h : PE X (.Constant c k pos) te) (hr : PA X es t) : PA X (.Constant c k pos :: es) (tCons te t) := pa_cons h hr rfl
theorem pa_T {l : List Expr} {k : Nat} {pos : Pos} (h : PE X (.Tuple l k pos) te) (hr : PA X es t) : PA X (.Tuple l k pos :: es) (tCons te t) := pa_cons h hr rfl
theorem pa_B {o : Operator} {a b : Expr} {pos : Pos} (h : PE X (.BinOp a o b pos) te) (hr : PA X es t) : PA X (.BinOp a o b pos :: es) (tCons te t) := pa_cons h hr rfl
end
section
variable {P : Program} {w : World} {K : PySem.W.Frag} {mg : Str → Option Value} {base : Heap}
end
end T1
namespace T1
open PySem L2
section
variable {P : Program} {w : World} {K : PySem.W.Frag} {mg : Str → Option Value} {base : Heap}
end
end T1
namespace T1
open PySem L2
mutual
inductive NoL : D → Prop where
  | non : NoL .non
  | bl (b : Bool) : NoL (.bl b)
  | int (i : Int) : NoL (.int i)
  | str (x : Str) : NoL (.str x)
  | tup {ds : List D} (t : NoLs ds) : NoL (.tup ds)
inductive NoLs : List D → Prop where
  | nil : NoLs []
  | cons {d : D} {ds : List D} (h : NoL d) (t : NoLs ds) : NoLs (d :: ds)
end
mutual
theorem Rep.updL {z p : Addr} {H : Hp} {l l' : List V} (hp : H p = some (.lst l)) : ∀ {v : V} {d : D}, Rep z H v d → NoL d → Rep z (upd H p (.lst l')) v d
  | _, _, .non, _ => .non
  | _, _, .bl b, _ => .bl b
  | _, _, .int i, _ => .int i
  | _, _, .str x h, _ => .str x h
  | _, _, .tup h hz r, .tup t => .tup (by rw [upd_ne (ne_of h hp (by intro q; cases q))]; exact h) hz (Reps.updL hp r t)
theorem Reps.updL {z p : Addr} {H : Hp} {l l' : List V} (hp : H p = some (.lst l)) : ∀ {vs : List V} {ds : List D}, Reps z H vs ds → NoLs ds → Reps z (upd H p (.lst l')) vs ds
  | _, _, .nil, _ => .nil
  | _, _, .cons h t, .cons h' t' => .cons (Rep.updL hp h h') (Reps.updL hp t t')
end
end T1
namespace T1
open PySem L2
section
variable {P : Program} {w : World} {K : PySem.W.Frag} {mg : Str → Option Value} {base : Heap}
end
end T1
namespace T1
open PySem L2
def top (i : Nat) : Stmt := PySem.Challenge.pw_tonguenest_k12_whole_free_readings.main.body.getD i (.Pass ⟨0, 0, 0, 0⟩)
abbrev sWithin : Stmt := top 1
abbrev sPoss : Stmt := top 2
abbrev sFitting : Stmt := top 3
abbrev sTakeM : Stmt := top 4
abbrev sPlainR : Stmt := top 5
abbrev sRoomsOf : Stmt := top 8
abbrev sEndsFrom : Stmt := top 9
abbrev sAllEnds : Stmt := top 10
abbrev sCanBeWhole : Stmt := top 11
abbrev sIsHopeful : Stmt := top 12
abbrev sWholeReading : Stmt := top 13
abbrev sFreeReadings : Stmt := top 14
abbrev lBag : Stmt := top 16
abbrev lTake : Stmt := top 17
abbrev lMk : Stmt := top 18
abbrev lFits : Stmt := top 19
abbrev lBook : Stmt := top 20
abbrev lMarks : Stmt := top 21
abbrev lText : Stmt := top 22
abbrev lFitting : Stmt := top 23
abbrev lStep : Stmt := top 24
abbrev lIsFree : Stmt := top 26
abbrev lAllFree : Stmt := top 27
abbrev lRight : Stmt := top 28
abbrev lLaw : Stmt := top 29
end T1
namespace T1
open PySem L2
structure TxtB (mg : Str → Option Value) : Prop where
  len : mg "len" = none
  ord : mg "ord" = none
  all_ : mg "all" = none
  any_ : mg "any" = none
  isinst : mg "isinstance" = none
  str : mg "str" = none
  int : mg "int" = none
  bool : mg "bool" = none
  tuple : mg "tuple" = none
  range : mg "range" = none
  sorted : mg "sorted" = none
  max : mg "max" = none
end T1
namespace T1
open PySem L2
section
variable {P : Program} {w : World} {K : PySem.W.Frag} {mg : Str → Option Value} {base : Heap}
theorem scTake : FnScope ["bag", "many", "found"] ["bag", "many"] (defScope lTake) := ⟨rfl, rfl, rfl, by decide +kernel, rfl, by decide +kernel, by decide +kernel⟩
theorem ok_take {f : Addr} {fd : FuncData} (F : Fun K "_law_take" "_law_take" lTake f fd) : FnOk P w K mg base CX0 1 f fd ["bag", "many"] spTake := by
  refine F.ok scTake (fun vs H Q E h => ?_) (fun cdv A outer s H vs Q E hr h => ?_)
  · obtain ⟨z, n, rfl, _⟩ := h
    rfl
  · obtain ⟨z, n, rfl, ⟨c, e, hz⟩, hn, hn2, k⟩ := h
    have nd := scTake.nd
    refine ⟨_, pss_cons (ps_if (pt_cmpR op_gt (pe_ix ix_list (pv 0) pe_int (fun _ _ => rfl)) pe_int (nomark _))
        (pss_cons (ps_set (i := 2) nd rfl (Or.inl rfl) (pe_op op_mod (pe_ix ix_list (pv 0) pe_int (fun _ _ => rfl)) (pv 1)))
        (pss_cons (ps_asg (pe_op op_fdiv (pe_ix ix_list (pv 0) pe_int (fun _ _ => rfl)) (pv 1)) (pg_sub (pv 0) pe_int set_list))
        (pss_one (ps_ret (pv 2))))) pss_nil)
      (pss_cons (ps_asg (pe_op op_mod (pe_op op_mul (pe_ix ix_list (pv 0) pe_int (fun _ _ => rfl)) pe_int) pe_int) (pg_sub (pv 0) pe_int set_list))
      (pss_one (ps_ret (pe_op op_mod (pe_op op_fdiv (pe_op op_mod (pe_op op_mul (pe_op op_fdiv (pe_ix ix_list (pv 0) pe_int (fun _ _ => rfl)) pe_int) (pe_op op_add (pe_op op_mod (pe_ix ix_list (pv 0) pe_int (fun _ _ => rfl)) pe_int) pe_int)) pe_int) pe_int) (pv 1))))), ?_⟩
    dsimp only [cxOf, Cx.nox, Cx.wish]
    refine ⟨_, rfl, z, _, 0, _, rfl, rfl, SqL.of hz, atI_nat (j := 0) rfl, _, _, rfl, rfl, _, rfl, ?_⟩
    have ex : ∀ x : Int, ∃ r : Nat, x % n = (r : Int) ∧ (r : Int) < n := fun x => ⟨(x % n).toNat, by have := Int.emod_nonneg x (show n ≠ 0 by omega); omega, by have := Int.emod_lt_of_pos x hn; have := Int.emod_nonneg x (show n ≠ 0 by omega); omega⟩
    refine ite2 (fun h1 => ?_) (fun h1 => ?_)
    · refine ⟨_, rfl, z, _, 0, _, rfl, rfl, SqL.of hz, atI_nat (j := 0) rfl, _, rfl, _, _, rfl, rfl, hn, ?_⟩
      refine ⟨_, rfl, z, _, 0, _, rfl, rfl, SqL.of hz, atI_nat (j := 0) rfl, _, rfl, _, _, rfl, rfl, ⟨hn, by omega⟩, ?_⟩
      refine ⟨_, rfl, z, _, 0, 0, rfl, rfl, hz, rfl, ?_⟩
      obtain ⟨r, er, hr1⟩ := ex c
      refine ⟨_, rfl, ?_⟩
      have q := k r (upd H z (.lst [.int (c / n), .int e])) hr1 ⟨SameX.refl.upd, ⟨_, _, upd_same⟩⟩
      rw [← er] at q
      exact q
    · refine ⟨_, rfl, z, _, 1, _, rfl, rfl, SqL.of hz, atI_nat (j := 1) rfl, _, _, rfl, rfl, .inr (by decide), _, _, rfl, rfl, (by show (0 : Int) < _; decide), ?_⟩
      refine ⟨_, rfl, z, _, 1, 1, rfl, rfl, hz, rfl, ?_⟩
      refine ⟨_, rfl, z, _, 1, _, rfl, rfl, SqL.of upd_same, atI_nat (j := 1) rfl, _, _, rfl, rfl, ⟨by decide, by decide⟩, _, rfl, z, _, 1, _, rfl, rfl, SqL.of upd_same, atI_nat (j := 1) rfl, _, _, rfl, rfl, (by show (0 : Int) < _; decide), _, _, rfl, rfl, _, _, rfl, rfl, ?_⟩
      refine ⟨.inr ?_, _, _, rfl, rfl, (by show (0 : Int) < _; decide), _, _, rfl, rfl, ⟨by decide, by decide⟩, _, rfl, _, _, rfl, rfl, hn, ?_⟩
      · have a1 := Int.emod_nonneg (e * 48271 % 2147483647) (show (32749 : Int) ≠ 0 by decide)
        have a2 := Int.emod_lt_of_pos (e * 48271 % 2147483647) (show (0 : Int) < 32749 by decide)
        omega
      · obtain ⟨r, er, hr1⟩ := ex (e * 48271 % 2147483647 / 13 * (e * 48271 % 2147483647 % 32749 + 17) % 2147483629 / 32)
        have q := k r (upd H z (.lst [.int c, .int (e * 48271 % 2147483647)])) hr1 ⟨SameX.refl.upd, ⟨_, _, upd_same⟩⟩
        rw [← er] at q
        exact q
theorem scBag : FnScope ["script", "k", "cell", "seed"] ["script", "k"] (defScope lBag) := ⟨rfl, rfl, rfl, by decide +kernel, rfl, by decide +kernel, by decide +kernel⟩
theorem ok_bag {f : Addr} {fd : FuncData} (F : Fun K "_law_bag" "_law_bag" lBag f fd) (T : TxtB mg) : FnOk P w K mg base CX0 1 f fd ["script", "k"] (spBag K) := by
  refine F.ok scBag (fun vs H Q E h => ?_) (fun cdv A outer s H vs Q E hr h => ?_)
  · obtain ⟨z, n, i, rfl, _⟩ := h
    rfl
  · obtain ⟨a, ns, i, rfl, ha, hi, k⟩ := h
    have nd := scBag.nd
    refine ⟨_, pss_cons (ps_set (i := 2) nd rfl (Or.inl rfl) pe_int)
      (pss_cons (ps_if (pt_cmpR op_lt (pv 1) (pe_callB call_len_seq (by rfl) T.len b_len (pa_cons (pv 0) pa_nil)) (nomark _))
        (pss_one (ps_set (i := 2) nd rfl (Or.inl rfl) (pe_op op_mod (pe_ix ix_list (pv 0) (pv 1) (fun _ _ => rfl)) (pe_op op_pow pe_int pe_int)))) pss_nil)
      (pss_cons (ps_set (i := 3) nd rfl (Or.inl rfl) (pe_op op_add pe_int (pe_op op_mod (pe_op op_add (pe_op op_add (pe_op op_add (pe_op op_mul (pe_op op_mod (pv 2) pe_int) pe_int) (pe_op op_mul (pe_op op_mul pe_int (pv 1)) (pv 1))) (pe_op op_mul pe_int (pv 1))) pe_int) pe_int)))
      (pss_cons (ps_if (pt_cmpR op_lt (pv 2) (pe_op op_pow pe_int pe_int) (nomark _)) (pss_one (ps_ret (pe_lst (pa_cons pe_int (pa_cons (pv 3) pa_nil))))) pss_nil)
      (pss_one (ps_ret (pe_lst (pa_cons (pv 2) (pa_cons (pv 3) pa_nil)))))))), ?_⟩
    dsimp only [cxOf, Cx.nox, Cx.wish]
    have small : (2 : Nat) ≤ sizeLine := by rw [sizeLine_eq]; decide
    refine ⟨_, rfl, _, rfl, a, _, rfl, .inl ha, _, _, rfl, rfl, _, rfl, ?_⟩
    refine ite2 (fun h1 => ?g1) (fun h1 => ?g2)
    case' g1 =>
      have hlt : i < ns.length := by simp at h1; omega
      refine ⟨_, rfl, _, rfl, a, _, _, .int ns[i], rfl, rfl, ha, atI_nat (by simp [hlt]), _, _, rfl, rfl, ⟨by decide, by decide, by decide⟩, _, _, rfl, rfl, (by show (0 : Int) < _; decide), ?_⟩
    all_goals
      refine ⟨_, rfl, _, _, rfl, rfl, (by show (0 : Int) < _; decide), _, _, rfl, rfl, .inr (by decide), _, rfl, _, _, rfl, rfl, .inl (by decide), _, rfl, _, _, rfl, rfl, .inr (by omega), _, _, rfl, rfl, _, rfl, _, _, rfl, rfl, .inl (by decide), _, _, rfl, rfl, _, _, rfl, rfl, _, _, rfl, rfl, (by show (0 : Int) < _; decide), _, _, rfl, rfl, ?_⟩
      refine ⟨_, rfl, _, _, rfl, rfl, ⟨by decide, by decide, by decide⟩, _, _, rfl, rfl, _, rfl, ?_⟩
      refine ite2 (fun h1 => ?_) (fun h1 => ?_)
      · exact ⟨_, rfl, small, fun p np => k p _ np (Same.new np) ⟨_, _, upd_same⟩⟩
      · exact ⟨_, rfl, _, rfl, small, fun p np => k p _ np (Same.new np) ⟨_, _, upd_same⟩⟩
end
end T1
namespace T1
open PySem L2
section
variable {P : Program} {w : World} {K : PySem.W.Frag} {mg : Str → Option Value} {base : Heap}
theorem scMk : FnScope ["bag", "signs", "found", "turn"] ["bag", "signs"] (defScope lMk) := ⟨rfl, rfl, rfl, by decide +kernel, rfl, by decide +kernel, by decide +kernel⟩
theorem ok_mk {f f1 : Addr} {fd fd1 : FuncData} (F : Fun K "_law_mark" "_law_mark" lMk f fd) (T : TxtB mg) (k1 : PySem.W.keepIn K (.ref f1) = true) (b1 : Binds K fd1 ["bag", "many"] []) (m1 : mg "_law_take" = some (.ref f1)) (G1 : FnOk P w K mg base CX0 1 f1 fd1 ["bag", "many"] spTake) : FnOk P w K mg base CX0 2 f fd ["bag", "signs"] spMk := by
  refine F.ok scMk (fun vs H Q E h => ?_) (fun cdv A outer s H vs Q E hr h => ?_)
  · obtain ⟨z, n, rfl, _⟩ := h
    rfl
  · obtain ⟨z, x, rfl, hB, hx1, hx2, hx3, k⟩ := h
    have nd := scMk.nd
    refine ⟨_, pss_cons (ps_set (i := 2) nd rfl (Or.inl rfl) pe_str)
      (pss_cons (ps_for PassesOwn.never rfl (pi_range1 rfl T.range (pa_cons (pe_op op_add pe_int (pe_ix ix_list (pe_lst (pa_cons pe_int (pa_cons pe_int (pa_cons pe_int (pa_cons (pe_call G1 hr rfl m1 k1 b1 .nil pass0 (pa_cons (pv 0) (pa_cons pe_int pa_nil))) pa_nil))))) (pe_call G1 hr rfl m1 k1 b1 .nil pass0 (pa_cons (pv 0) (pa_cons pe_int pa_nil))) (fun _ _ => rfl))) pa_nil))
        (pg_name (i := 3) nd rfl (Or.inl rfl))
        (pss_one (ps_set (i := 2) nd rfl (Or.inl rfl) (pe_op op_add_str (pv 2) (pe_ix ix_str (pv 1) (pe_call G1 hr rfl m1 k1 b1 .nil pass0 (pa_cons (pv 0) (pa_cons (pe_callB call_len_str (by rfl) T.len b_len (pa_cons (pv 1) pa_nil)) pa_nil))) (fun _ _ => rfl))))))
      (pss_one (ps_ret (pv 2)))), ?_⟩
    dsimp only [cxOf, Cx.nox, Cx.wish]
    have small : (1000 : Nat) ≤ sizeLine := by rw [sizeLine_eq]; decide
    refine ⟨_, rfl, z, 4, rfl, hB, by decide, by decide, fun r H1 hr1 a1 => ?_⟩
    refine ⟨by show (4 : Nat) ≤ _; omega, fun p np => ⟨_, rfl, z, 4, rfl, ?_, by decide, by decide, fun r2 H2 hr2 a2 => ?_⟩⟩
    · exact (a1.same (Same.new np)).2
    · have a12 : Aft z H H2 := (a1.same (Same.new np)).trans a2
      have hpz : p ≠ z := by
        obtain ⟨c, e, h⟩ := a1.2
        exact (ne_of_none h np).symm
      have hp2 : H2 p = some (.lst [.int 0, .int 0, .int 1, .int r]) := a2.1 p _ hpz upd_same
      obtain ⟨n, hn1, hn2, hn3⟩ : ∃ n : Nat, ([V.int 0, V.int 0, V.int 1, V.int r] : List V)[r2]? = some (.int n) ∧ n ≤ 3 ∧ True := by
        match r2, hr2 with
        | 0, _ => exact ⟨0, rfl, by omega, trivial⟩
        | 1, _ => exact ⟨0, rfl, by omega, trivial⟩
        | 2, _ => exact ⟨1, rfl, by omega, trivial⟩
        | 3, _ => exact ⟨r, rfl, by omega, trivial⟩
        | m + 4, h => omega
      refine ⟨p, _, r2, .int n, rfl, rfl, SqL.of hp2, atI_nat hn1, 1, n, rfl, rfl, 1 + n, rfl, by omega, by omega, ?_⟩
      have en : (1 + (n : Int)).toNat = 1 + n := by omega
      rw [en]
      refine for_range (fun i σ H3 => ∃ m u, σ = [some (.ref z), some (.str x), some (.str m), u] ∧ Aft z H H3 ∧ m.length = i ∧ signsOk m) ⟨_, none, rfl, a12, by decide +kernel, ?_⟩ ?_ ?_
      · intro c hc
        have : (Str.ofString "").cps.toList = [] := by decide +kernel
        rw [this] at hc
        cases hc
      · rintro i σ H3 hi ⟨m, u, rfl, a3, hm1, hm2⟩
        refine ⟨_, rfl, _, rfl, _, rfl, _, rfl, x, rfl, by omega, z, x.length, rfl, a3.2, by omega, by omega, fun r3 H4 hr3 a4 => ?_⟩
        have hr4 : r3 < x.cps.toList.length := by
          have : x.cps.toList.length = x.length := by simp; rfl
          omega
        refine ⟨x, r3, x.cps.toList[r3], rfl, rfl, by omega, atI_nat (by simp [hr4]), m, _, rfl, rfl, ?_, ?_⟩
        · show m.length + 1 ≤ _
          omega
        · refine ⟨_, _, rfl, a3.trans a4, ?_, fun c hc => ?_⟩
          · rw [str_len_append]
            show m.length + 1 = _
            omega
          · rw [str_list_append] at hc
            rcases List.mem_append.mp hc with hc | hc
            · exact hm2 c hc
            · have : c = x.cps.toList[r3] := by simpa using hc
              rw [this]
              exact hx3 _ (List.getElem_mem hr4)
      · rintro σ H3 ⟨m, u, rfl, a3, hm1, hm2⟩
        refine ⟨_, rfl, k m H3 ?_ a3⟩
        unfold markS
        rw [decide_eq_true (show 1 ≤ m.length by omega), decide_eq_true (show m.length ≤ 4 by omega)]
        simp only [Bool.true_and, List.all_eq_true]
        exact hm2
end
end T1
namespace T1
open PySem L2
section
variable {P : Program} {w : World} {K : PySem.W.Frag} {mg : Str → Option Value} {base : Heap}
theorem scFits : FnScope ["book", "escape", "doors", "other", "more", "door", "some"] ["book"] (defScope lFits) := ⟨rfl, rfl, rfl, by decide +kernel, rfl, by decide +kernel, by decide +kernel⟩
set_option maxHeartbeats 1000000 in
theorem ok_fits {f : Addr} {fd : FuncData} (F : Fun K "_law_fits_book" "_law_fits_book" lFits f fd) (T : TxtB mg) (T2 : Txt2 mg) : FnOk P w K mg base CX0 1 f fd ["book"] spFits := by
  refine F.ok scFits (fun vs H Q E h => ?_) (fun cdv A outer s H vs Q E hr h => ?_)
  · obtain ⟨z, a, xs, b, rfl, _⟩ := h
    rfl
  · obtain ⟨z, a, xs, b, rfl, hS, R, hb7, hok, k⟩ := h
    have nd := scFits.nd
    refine ⟨_, pss_cons (ps_for PassesOwn.never rfl (PI.or (pi_tup (pv 0)) (pi_list (pv 0))) (pg_tup rfl (pgs_cons (pg_name (i := 1) nd rfl (Or.inr rfl)) (pgs_cons (pg_name (i := 2) nd rfl (Or.inl rfl)) pgs_nil)))
        (pss_cons (ps_for PassesOwn.never rfl (PI.or (pi_tup (pv 0)) (pi_list (pv 0))) (pg_tup rfl (pgs_cons (pg_name (i := 3) nd rfl (Or.inl rfl)) (pgs_cons (pg_name (i := 4) nd rfl (Or.inl rfl)) pgs_nil)))
          (pss_cons (ps_setcomp1 (i := 6) (N' := ["door", "escape"]) (js := [none, some 1]) rfl rfl nd rfl (Or.inl rfl) (blk_of (defScope lFits) (by decide +kernel)) ⟨rfl, Or.inr (Or.inl rfl), rfl, trivial⟩ (pi_tup (pv 4))
            (fun cl s H fp => pg_name (i := 0) ndDE rfl (Or.inl rfl))
            (fun cl s H fp => pts_one (pt_cmpR op_in_str (pv 1) (pe_op op_add_str (pe_op op_add_str (pe_ix ix_tupB (pv 0) pe_int (fun _ _ => rfl)) pe_str) (pe_ix ix_tupB (pv 0) pe_int (fun _ _ => rfl))) (by with_unfolding_all rfl))) (fun cl s H fp => pv 0))
          (pss_one (ps_if (PW.pt (pw_and (pt_cmpR op_ne (pv 1) pe_str (nomark _)) (pw_and1 (pt_cmpR (op_ne_nil hr.units0) (pv 6) (pe_lst pa_nil) (nomark _))))) (pss_one (ps_ret pe_bl)) pss_nil))))
        (pss_cons (ps_if (pt_cmpR op_ne (pe_callB call_len_setL (by rfl) T.len b_len (pa_cons (pe_callTy (call_set_texts rfl) (by rfl) T2.set b_set (pa_cons (pe_comp1 (N' := ["door"]) (js := [none]) rfl rfl (blk_of (defScope lFits) (by decide +kernel)) trivial (pi_tup (pv 2))
            (fun cl s H fp => pg_name (i := 0) ndD rfl (Or.inl rfl)) (fun cl s H fp => pts_nil) (fun cl s H fp => pe_ix ix_tupB (pv 0) pe_int (fun _ _ => rfl))) pa_nil)) pa_nil)) (pe_callB call_len_seq (by rfl) T.len b_len (pa_cons (pv 2) pa_nil)) (nomark _)) (pss_one (ps_ret pe_bl)) pss_nil)
        (pss_one (ps_for PassesOwn.never rfl (pi_tup (pv 2)) (pg_name (i := 5) nd rfl (Or.inr rfl))
          (pss_one (ps_if (pt_cmpR (op_ne_nil hr.units0) (pe_comp1 (N' := ["one", "door"]) (js := [none, some 5]) rfl rfl (blk_of (defScope lFits) (by decide +kernel)) ⟨rfl, Or.inr (Or.inl rfl), rfl, trivial⟩ (pi_tup (pe_ix ix_tup (pe_ix ix_seq (pv 0) (pe_ix ix_tup (pv 5) pe_int (fun _ _ => rfl)) (fun _ _ => rfl)) pe_int (fun _ _ => rfl)))
            (fun cl s H fp => pg_name (i := 0) ndOD rfl (Or.inl rfl)) (fun cl s H fp => pts_one (pt_val (pe_bmB PySem.F.plainAttrs_str PySem.F.slot_str_startswith PySem.F.type_str_startswith mt_startswith (pe_ix ix_tupB (pv 0) pe_int (fun _ _ => rfl)) (pa_cons (pe_ix ix_tupB (pv 1) pe_int (fun _ _ => rfl)) pa_nil)))) (fun cl s H fp => pv 0)) (pe_lst pa_nil) (nomark _)) (pss_one (ps_ret pe_bl)) pss_nil)))))))
      (pss_one (ps_ret pe_bl)), ?_⟩
    dsimp only [cxOf, Cx.nox, Cx.wish]
    have hl : xs.length = b.length := by have := R.length; simpa using this
    refine for_seq (a := a) (xs := xs) hS (fun R q => ⟨_, rfl, q⟩) (fun R q => ⟨_, rfl, q⟩) (fun i σ H2 => ∃ u1 u2 u3 u4 u5 u6, σ = [some (.ref a), u1, u2, u3, u4, u5, u6] ∧ Same H H2 ∧ ∀ j, j < i → fitT b (b.getD j tg0) = true) ⟨none, none, none, none, none, none, rfl, Same.refl H, fun j hj => absurd hj (Nat.not_lt_zero j)⟩ (fun i σ H' ⟨_, _, _, _, _, _, _, s, _⟩ => s) ?_ ?_
    · rintro i y σ H2 hi ⟨u1, u2, u3, u4, u5, u6, rfl, s2, hP⟩
      have hil : i < b.length := by have := (List.getElem?_eq_some_iff.mp hi).1; omega
      have ey : y = xs.getD i .non := by rw [List.getD_eq_getElem?_getD, hi]; rfl
      have tok : TgOk b.length (b.getD i tg0) := hok _ (getD_mem _ hil)
      obtain ⟨c, d, ys, e, hcz, hdz, hc, hd, hyl, Ry⟩ := rep_tongue ((reps_tongue (b := b) (i := i) R hil).mono s2.x)
      rw [ey, e]
      have hyl : ys.length = (b.getD i tg0).2.length := hyl
      have few1 := tok.2.1
      have no : ∀ H', Same H H' → fitT b (b.getD i tg0) = false → Q (.bl false) H' := fun H' s' hf => by
        have := all_no b tg0 (fitT b) hil hf
        have q := k H' s'
        unfold fitsB at q
        rw [this] at q
        exact q
      refine ⟨c, _, rfl, SqT.of hc, rfl, _, _, rfl, _, _, rfl, rfl, ?_⟩
      refine D_hide fun D1 hD1 hR1 _ _ => ?_
      have no := fun H' a b => hR1 _ _ (no H' a b)
      refine seq_hide fun U hU => ?_
      refine for_seq (a := a) (xs := xs) (hS.same s2) (fun R q => ⟨_, rfl, q⟩) (fun R q => ⟨_, rfl, q⟩) (fun j σ H3 => ∃ u3 u4 u6, σ = [some (.ref a), some (.str (b.getD i tg0).1), some (.ref d), u3, u4, u5, u6] ∧ Same H2 H3 ∧ ∀ l, l < j → fit1 (b.getD i tg0) (b.getD l tg0) = true) ⟨u3, u4, u6, rfl, Same.refl _, fun j hj => absurd hj (Nat.not_lt_zero j)⟩ (fun i σ H' ⟨_, _, _, _, s, _⟩ => s) ?_ ?_
      · rintro j y2 σ H3 hj ⟨v3, v4, v6, rfl, s3, hP1⟩
        have hjl : j < b.length := by have := (List.getElem?_eq_some_iff.mp hj).1; omega
        have ey2 : y2 = xs.getD j .non := by rw [List.getD_eq_getElem?_getD, hj]; rfl
        have tok2 : TgOk b.length (b.getD j tg0) := hok _ (getD_mem _ hjl)
        have few2 := tok2.2.1
        obtain ⟨c2, d2, zs, e2, hc2z, hd2z, hc2, hd2, hzl, Rz⟩ := rep_tongue ((reps_tongue (b := b) (i := j) R hjl).mono (s2.trans s3).x)
        rw [ey2, e2]
        have hzl : zs.length = (b.getD j tg0).2.length := hzl
        refine ⟨c2, _, rfl, SqT.of hc2, rfl, _, _, rfl, _, _, rfl, rfl, ?_⟩
        refine D_hide fun D2 hD2 hR2 _ _ => ?_
        have no := fun H' a b => hR2 _ _ (no H' a b)
        refine seq_hide fun U2 hU2 => ?_
        refine ⟨_, rfl, d2, rfl, ⟨_, SqT.of hd2⟩, fun p np => ?_⟩
        have hdp : d2 ≠ p := ne_of_none hd2 np
        have nx : ∀ H', Same H3 H' → fit1 (b.getD i tg0) (b.getD j tg0) = true → ∃ u3 u4 u6, [some (V.ref a), some (V.str (b.getD i tg0).1), some (V.ref d), some (.str (b.getD j tg0).1), some (.ref d2), u5, some (.ref p)] = [some (V.ref a), some (V.str (b.getD i tg0).1), some (V.ref d), u3, u4, u5, u6] ∧ Same H2 H' ∧ ∀ l, l < j + 1 → fit1 (b.getD i tg0) (b.getD l tg0) = true := fun H' s' hf => ⟨_, _, _, rfl, s3.trans s', fun l hl => by
          rcases Nat.lt_succ_iff_lt_or_eq.mp hl with h | h
          · exact hP1 l h
          · rw [h]; exact hf⟩
        refine loop_new (fun l => if inEsc (b.getD i tg0).1 ((b.getD j tg0).2.getD l dr0) then some (zs.getD l .non) else none) (fun σ => ∃ v, σ = [v, some (.str (b.getD i tg0).1)]) ⟨none, rfl⟩ np (by omega) (itok_tup (xs := zs) (by rw [upd_ne hdp]; exact hd2) hdp) (fun l σ H4 C hl' ⟨v, hv⟩ hS4 hC => ?_) (fun σ H4 s4 hH4 => ?_)
        · subst hv
          have hll : l < (b.getD j tg0).2.length := by omega
          obtain ⟨q, e3, hqz, hq⟩ := rep_door ((reps_door (ds := (b.getD j tg0).2) (i := l) Rz hll).mono hS4.x)
          have dok := tok2.2.2 _ (getD_mem dr0 hll)
          have l1 := markS_len dok.1
          have l2 := markS_len dok.2.2
          have big : (1000 : Nat) ≤ sizeLine := by rw [sizeLine_eq]; decide
          have lb : (Str.ofString " ").length = 1 := by decide +kernel
          have hC' := hC [some (.ref q), some (.str (b.getD i tg0).1)] H4 ⟨_, rfl⟩ (Same.refl _)
          rw [e3]
          refine ⟨_, rfl, _, rfl, q, _, 0, _, rfl, rfl, SqT.of hq, atI_nat (j := 0) rfl, _, _, rfl, rfl, ?_, _, rfl, q, _, 2, _, rfl, rfl, SqT.of hq, atI_nat (j := 2) rfl, _, _, rfl, rfl, ?_, _, _, rfl, rfl, _, rfl, ?_⟩
          · rw [lb]
            show ((b.getD j tg0).2.getD l dr0).1.length + 1 ≤ _
            omega
          · rw [str_len_append, lb]
            show ((b.getD j tg0).2.getD l dr0).1.length + 1 + ((b.getD j tg0).2.getD l dr0).2.2.length ≤ _
            omega
          · show if inEsc (b.getD i tg0).1 ((b.getD j tg0).2.getD l dr0) = true then _ else _
            cases g : inEsc (b.getD i tg0).1 ((b.getD j tg0).2.getD l dr0) with
            | true =>
              rw [g, if_pos rfl, e3] at hC'
              exact iteT ⟨_, rfl, hC'⟩
            | false =>
              rw [g, if_neg (by simp)] at hC'
              exact iteF hC'
        · refine hU2 _ _ ⟨_, rfl, rfl, _, rfl, ?_⟩
          refine ite2 (fun g1 => ?_) (fun g1 => ?_)
          · refine ⟨_, rfl, Nat.zero_le _, fun q nq => ?_⟩
            have hpq : p ≠ q := ne_of_none hH4 nq
            refine ⟨p, q, _, rfl, rfl, by rw [upd_ne hpq]; exact hH4, upd_same, _, rfl, ?_⟩
            have e5 := flt_empty (b.getD j tg0).2 dr0 (inEsc (b.getD i tg0).1) (fun l => zs.getD l .non) hzl
            rw [e5, Bool.not_not]
            cases g2 : (b.getD j tg0).2.any (inEsc (b.getD i tg0).1) with
            | true =>
              refine iteT (no _ (((s2.trans s3).trans s4).trans (Same.new nq)) ?_)
              have f1 : fit1 (b.getD i tg0) (b.getD j tg0) = false := by
                unfold fit1
                rw [g2, g1]
                rfl
              unfold fitT
              rw [all_no b tg0 (fit1 (b.getD i tg0)) hjl f1, Bool.false_and, Bool.false_and]
            | false =>
              refine iteF (hD2 _ _ (nx _ (s4.trans (Same.new nq)) ?_))
              unfold fit1
              rw [g2, Bool.and_false]
              rfl
          · refine iteF (hD2 _ _ (nx _ s4 ?_))
            have g1' : (!decide (V.str (b.getD i tg0).1 = V.str (Str.ofString ""))) = false := by simpa using g1
            unfold fit1
            rw [g1', Bool.false_and]
            rfl
      · rintro σ H3 ⟨v3, v4, v6, rfl, s3, hP1⟩
        have f1 : b.all (fit1 (b.getD i tg0)) = true := all_of b tg0 _ fun j hj => hP1 j (by omega)
        refine hU _ _ (seq_hide fun U hU => ?_)
        refine ⟨_, rfl, d, rfl, ⟨_, SqT.of (s3 _ _ hd)⟩, fun p np => ?_⟩
        have hdp : d ≠ p := ne_of_none (s3 _ _ hd) np
        refine loop_map (fun l => .str ((b.getD i tg0).2.getD l dr0).1) (fun σ => ∃ v, σ = [v]) ⟨none, rfl⟩ np (by omega) (itok_tup (xs := ys) (by rw [upd_ne hdp]; exact s3 _ _ hd) hdp) (fun l σ H4 C hl' ⟨v, hv⟩ hS4 hC => ?_) (fun σ H4 s4 hH4 => ?_)
        · subst hv
          obtain ⟨q, e3, hqz, hq⟩ := rep_door ((reps_door (ds := (b.getD i tg0).2) (i := l) Ry (by omega)).mono (s3.trans hS4).x)
          rw [e3]
          exact ⟨_, rfl, q, _, 0, _, rfl, rfl, SqT.of hq, atI_nat (j := 0) rfl, hC _ H4 ⟨_, rfl⟩ (Same.refl _)⟩
        · have hO : H4 p = some (.lst ((opensOf (b.getD i tg0).2).map V.str)) := by
            rw [hH4, hyl]
            unfold opensOf
            rw [List.map_map]
            exact congrArg (fun x => some (HO.lst x)) (range_map (b.getD i tg0).2 dr0 fun d => V.str d.1)
          refine ⟨p, opensOf (b.getD i tg0).2, rfl, SqL.of hO, (by unfold scanBound opensOf; rw [List.length_map]; omega), fun q nq => ?_⟩
          have s5 := Same.new (o := setL P w q (opensOf (b.getD i tg0).2)) nq
          have s25 : Same H2 _ := (s3.trans s4).trans s5
          refine ⟨q, _, rfl, upd_same, _, rfl, d, ys, rfl, .inr (SqT.of (s25 _ _ hd)), rfl, _, rfl, ?_⟩
          have e2 : (!decide (V.int ((dd (opensOf (b.getD i tg0).2)).length : Int) = V.int (ys.length : Int))) = !decide (opensOf (b.getD i tg0).2).Nodup := by
            congr 1
            rw [decide_eq_decide, ← dd_all]
            have : (opensOf (b.getD i tg0).2).length = (b.getD i tg0).2.length := by simp [opensOf]
            rw [this, ← hyl]
            simp
            omega
          rw [e2]
          cases g3 : decide (opensOf (b.getD i tg0).2).Nodup with
          | false =>
            refine iteT (no _ (s2.trans s25) ?_)
            unfold fitT
            rw [g3, Bool.and_false, Bool.false_and]
          | true =>
            refine iteF (hU _ _ ?_)
            refine ⟨_, rfl, d, rfl, ⟨_, SqT.of (s25 _ _ hd)⟩, for_tup (K := K) (a := d) (xs := ys) (fun l σ H6 => ∃ u3 u4 u5 u6, σ = [some (.ref a), some (.str (b.getD i tg0).1), some (.ref d), u3, u4, u5, u6] ∧ Same H2 H6 ∧ ∀ m, m < l → fit3 b ((b.getD i tg0).2.getD m dr0) = true) ⟨_, _, _, _, rfl, s25, fun j hj => absurd hj (Nat.not_lt_zero j)⟩ (fun l σ H6 _ ⟨_, _, _, _, _, s, _⟩ => SqT.of (s _ _ hd)) ?_ ?_⟩
            · rintro l y3 σ H6 hl' ⟨w3, w4, w5, w6, rfl, s6, hP3⟩
              have hll : l < (b.getD i tg0).2.length := by have := (List.getElem?_eq_some_iff.mp hl').1; omega
              have ey3 : y3 = ys.getD l .non := by rw [List.getD_eq_getElem?_getD, hl']; rfl
              obtain ⟨q2, e3, hq2z, hq2⟩ := rep_door ((reps_door (ds := (b.getD i tg0).2) (i := l) Ry hll).mono s6.x)
              rw [ey3, e3]
              have dok := tok.2.2 _ (getD_mem dr0 hll)
              generalize hdr : (b.getD i tg0).2.getD l dr0 = dr at *
              obtain ⟨hn1, hn2⟩ := dok.2.1
              obtain ⟨n, hn⟩ : ∃ n : Nat, dr.2.1 = (n : Int) := ⟨dr.2.1.toNat, by omega⟩
              have hnl : n < b.length := by omega
              have few4 : (b.getD n tg0).2.length ≤ 6 := (hok _ (getD_mem tg0 hnl)).2.1
              obtain ⟨c4, d4, ws, e4, hc4z, hd4z, hc4, hd4, hwl, Rw⟩ := rep_tongue ((reps_tongue (b := b) (i := n) R hnl).mono (s2.trans s6).x)
              have hwl : ws.length = (b.getD n tg0).2.length := hwl
              have ex : xs[n]? = some (.ref c4) := by
                have h1 : n < xs.length := by omega
                have h2 : xs.getD n .non = xs[n] := by simp [h1]
                rw [List.getElem?_eq_getElem h1, ← h2, e4]
              rw [hn] at hq2
              refine ⟨_, rfl, _, rfl, q2, _, 1, _, rfl, rfl, SqT.of hq2, atI_nat (j := 1) rfl, ix_of (hS.same (s2.trans s6)) ex ?_⟩
              refine ⟨c4, _, 1, _, rfl, rfl, SqT.of hc4, atI_nat (j := 1) rfl, d4, rfl, ⟨_, SqT.of hd4⟩, fun p2 np2 => ?_⟩
              have hdp2 : d4 ≠ p2 := ne_of_none hd4 np2
              refine loop_new (fun m => if stAt ((b.getD n tg0).2.getD m dr0).1 dr.2.2 0 then some (ws.getD m .non) else none) (fun σ => ∃ v, σ = [v, some (.ref q2)]) ⟨none, rfl⟩ np2 (by omega) (itok_tup (xs := ws) (by rw [upd_ne hdp2]; exact hd4) hdp2) (fun m σ H7 C hm ⟨v, hv⟩ hS7 hC => ?_) (fun σ H7 s7 hH7 => ?_)
              · subst hv
                obtain ⟨q3, e5, hq3z, hq3⟩ := rep_door ((reps_door (ds := (b.getD n tg0).2) (i := m) Rw (by omega)).mono hS7.x)
                have hC' := hC [some (.ref q3), some (.ref q2)] H7 ⟨_, rfl⟩ (Same.refl _)
                rw [e5]
                refine ⟨_, rfl, q3, _, 0, _, rfl, rfl, SqT.of hq3, atI_nat (j := 0) rfl, rfl, _, rfl, q2, _, 2, _, rfl, rfl, SqT.of (hS7 _ _ hq2), atI_nat (j := 2) rfl, _, _, rfl, rfl, _, rfl, ?_⟩
                cases g : stAt ((b.getD n tg0).2.getD m dr0).1 dr.2.2 0 with
                | true =>
                  rw [g, if_pos rfl, e5] at hC'
                  exact iteT ⟨_, rfl, hC'⟩
                | false =>
                  rw [g, if_neg (by simp)] at hC'
                  exact iteF hC'
              · refine ⟨Nat.zero_le _, fun q nq => ?_⟩
                have hpq : p2 ≠ q := ne_of_none hH7 nq
                refine ⟨p2, q, _, rfl, rfl, by rw [upd_ne hpq]; exact hH7, upd_same, _, rfl, ?_⟩
                have e5 := flt_empty (b.getD n tg0).2 dr0 (fun o => stAt o.1 dr.2.2 0) (fun m => ws.getD m .non) hwl
                rw [e5, Bool.not_not]
                have ef : fit3 b dr = !((b.getD n tg0).2.any fun o => stAt o.1 dr.2.2 0) := by
                  unfold fit3
                  rw [hn]
                  rfl
                cases g2 : (b.getD n tg0).2.any fun o => stAt o.1 dr.2.2 0 with
                | true =>
                  refine iteT (no _ ((s2.trans s6).trans (s7.trans (Same.new nq))) ?_)
                  unfold fitT
                  rw [all_no (b.getD i tg0).2 dr0 (fit3 b) hll (by rw [hdr, ef, g2]; rfl), Bool.and_false]
                | false =>
                  refine iteF ⟨_, _, _, _, rfl, s6.trans (s7.trans (Same.new nq)), fun m hm => ?_⟩
                  rcases Nat.lt_succ_iff_lt_or_eq.mp hm with h | h
                  · exact hP3 m h
                  · rw [h, hdr, ef, g2]; rfl
            · rintro σ H6 ⟨w3, w4, w5, w6, rfl, s6, hP3⟩
              refine hD1 _ _ ⟨_, _, _, _, _, _, rfl, s2.trans s6, fun j hj => ?_⟩
              rcases Nat.lt_succ_iff_lt_or_eq.mp hj with h | h
              · exact hP j h
              · rw [h]
                unfold fitT
                rw [f1, g3, all_of (b.getD i tg0).2 dr0 (fit3 b) fun m hm => hP3 m (by omega)]
                rfl
    · rintro σ H2 ⟨u1, u2, u3, u4, u5, u6, rfl, s2, hP⟩
      have q := k H2 s2
      unfold fitsB at q
      rw [all_of b tg0 (fitT b) fun j hj => hP j (by omega)] at q
      exact q
end
end T1
namespace T1
open PySem L2
section
variable {P : Program} {w : World} {K : PySem.W.Frag} {mg : Str → Option Value} {base : Heap}
theorem scBookL : FnScope ["bag", "signs", "escapes", "many", "book", "turn", "at", "door", "more"] ["bag"] (defScope lBook) := ⟨rfl, rfl, rfl, by decide +kernel, rfl, by decide +kernel, by decide +kernel⟩
set_option maxHeartbeats 1000000 in
theorem ok_lbook {f f1 f2 f3 : Addr} {fd fd1 fd2 fd3 : FuncData} (F : Fun K "_law_book" "_law_book" lBook f fd) (T : TxtB mg) (T2 : Txt2 mg)
    (k1 : PySem.W.keepIn K (.ref f1) = true) (b1 : Binds K fd1 ["bag", "many"] []) (m1 : mg "_law_take" = some (.ref f1)) (G1 : FnOk P w K mg base CX0 1 f1 fd1 ["bag", "many"] spTake)
    (k2 : PySem.W.keepIn K (.ref f2) = true) (b2 : Binds K fd2 ["bag", "signs"] []) (m2 : mg "_law_mark" = some (.ref f2)) (G2 : FnOk P w K mg base CX0 2 f2 fd2 ["bag", "signs"] spMk)
    (k3 : PySem.W.keepIn K (.ref f3) = true) (b3 : Binds K fd3 ["book"] []) (m3 : mg "_law_fits_book" = some (.ref f3)) (G3 : FnOk P w K mg base CX0 1 f3 fd3 ["book"] spFits) : FnOk P w K mg base CX0 3 f fd ["bag"] spBook := by
  refine F.ok scBookL (fun vs H Q E h => ?_) (fun cdv A outer s H vs Q E hr h => ?_)
  · obtain ⟨z, rfl, _⟩ := h
    rfl
  · obtain ⟨z, rfl, hB, k⟩ := h
    have nd := scBookL.nd
    have hr1 : Room 1 _ := hr.mono (by decide)
    refine ⟨_, pss_cons (ps_set (i := 1) nd rfl (Or.inl rfl) (pe_ix ix_list (pe_lst (pa_cons pe_str (pa_cons pe_str (pa_cons pe_str (pa_cons pe_str pa_nil))))) (pe_call G1 hr1 rfl m1 k1 b1 .nil pass0 (pa_cons (pv 0) (pa_cons pe_int pa_nil))) (fun _ _ => rfl)))
      (pss_cons (ps_set (i := 2) nd rfl (Or.inr rfl) (pe_ix ix_list (pe_lst (pa_cons pe_str (pa_cons pe_str (pa_cons pe_str (pa_cons pe_str pa_nil))))) (pe_call G1 hr1 rfl m1 k1 b1 .nil pass0 (pa_cons (pv 0) (pa_cons pe_int pa_nil))) (fun _ _ => rfl)))
      (pss_cons (ps_set (i := 3) nd rfl (Or.inl rfl) (pe_op op_add pe_int (pe_call G1 hr1 rfl m1 k1 b1 .nil pass0 (pa_cons (pv 0) (pa_cons (pe_ix ix_list (pe_lst (pa_cons pe_int (pa_cons pe_int (pa_cons pe_int pa_nil)))) (pe_call G1 hr1 rfl m1 k1 b1 .nil pass0 (pa_cons (pv 0) (pa_cons pe_int pa_nil))) (fun _ _ => rfl)) pa_nil)))))
      (pss_cons (ps_setcomp1 (i := 4) (N' := ["tongue", "bag", "escapes"]) (js := [none, some 0, some 2]) rfl rfl nd rfl (Or.inl rfl) (blk_of (defScope lBook) (by decide +kernel)) ⟨rfl, Or.inr (Or.inl rfl), rfl, rfl, Or.inr (Or.inl rfl), rfl, trivial⟩ (pi_range1 rfl T.range (pa_cons (pv 3) pa_nil))
          (fun cl s H fp => pg_name (i := 0) ndTBE rfl (Or.inl rfl)) (fun cl s H fp => pts_nil)
          (fun cl s H fp => pe_tup (pa_cons (pe_ix ix_listB (pe_lst (pa_cons (pv 2) (pa_cons pe_str (pa_cons pe_str pa_nil)))) (pe_call G1 hr1 rfl m1 k1 b1 .nil pass0 (pa_cons (pv 1) (pa_cons pe_int pa_nil))) (fun _ _ => rfl)) (pa_cons (pe_tup pa_nil) pa_nil))))
      (pss_cons (ps_for PassesOwn.never rfl (pi_range1 rfl T.range (pa_cons (pe_op op_add pe_int (pe_call G1 hr1 rfl m1 k1 b1 .nil pass0 (pa_cons (pv 0) (pa_cons (pe_op op_mul pe_int (pv 3)) pa_nil)))) pa_nil)) (pg_name (i := 5) nd rfl (Or.inl rfl))
        (pss_cons (ps_set (i := 6) nd rfl (Or.inl rfl) (pe_ix ix_list (pe_lst (pa_cons pe_int (pa_cons (pe_call G1 hr1 rfl m1 k1 b1 .nil pass0 (pa_cons (pv 0) (pa_cons (pv 3) pa_nil))) pa_nil))) (pe_call G1 hr1 rfl m1 k1 b1 .nil pass0 (pa_cons (pv 0) (pa_cons pe_int pa_nil))) (fun _ _ => rfl)))
        (pss_cons (ps_set (i := 7) nd rfl (Or.inl rfl) (pe_tup (pa_cons (pe_call G2 hr rfl m2 k2 b2 .nil pass0 (pa_cons (pv 0) (pa_cons (pv 1) pa_nil))) (pa_cons (pe_call G1 hr1 rfl m1 k1 b1 .nil pass0 (pa_cons (pv 0) (pa_cons (pv 3) pa_nil))) (pa_cons (pe_call G2 hr rfl m2 k2 b2 .nil pass0 (pa_cons (pv 0) (pa_cons (pv 1) pa_nil))) pa_nil)))))
        (pss_cons (ps_set (i := 8) nd rfl (Or.inl rfl) (pe_callTy call_list_of (by rfl) T2.list b_list (pa_cons (pv 4) pa_nil)))
        (pss_cons (ps_asg (pe_tup (pa_cons (pe_ix ix_tup (pe_ix ix_list (pv 4) (pv 6) (fun _ _ => rfl)) pe_int (fun _ _ => rfl)) (pa_cons (pe_op op_catX (pe_ix ix_tup (pe_ix ix_list (pv 4) (pv 6) (fun _ _ => rfl)) pe_int (fun _ _ => rfl)) (pe_tup (pa_cons (pv 7) pa_nil))) pa_nil))) (pg_sub (pv 8) (pv 6) set_list))
        (pss_one (ps_if (PW.pt (pw_and (pt_cmpR op_lt (pe_callB call_len_seq (by rfl) T.len b_len (pa_cons (pe_ix ix_tup (pe_ix ix_list (pv 4) (pv 6) (fun _ _ => rfl)) pe_int (fun _ _ => rfl)) pa_nil)) pe_int (nomark _)) (pw_and1 (pt_val (pe_call G3 hr1 rfl m3 k3 b3 .nil pass0 (pa_cons (pv 8) pa_nil))))))
          (pss_one (ps_set (i := 4) nd rfl (Or.inl rfl) (pv 8))) pss_nil)))))))
      (pss_one (ps_ret (pe_callTy call_tuple_of (by rfl) T.tuple b_tuple (pa_cons (pv 4) pa_nil)))))))), ?_⟩
    dsimp only [cxOf, Cx.nox, Cx.wish]
    refine seq_hide fun U hU => ?_
    have small : (1000 : Nat) ≤ sizeLine := by rw [sizeLine_eq]; decide
    have A0 := Aft.refl hB
    refine ⟨by show (4 : Nat) ≤ _; omega, fun p1 np1 => ⟨_, rfl, z, 4, rfl, (A0.new np1).2, by decide, by decide, fun r1 H1 hr1' a1 => ?_⟩⟩
    have A1 : Aft z H H1 := (A0.new np1).trans a1
    have hp1 := a1.1 p1 _ (hB.ne np1) upd_same
    obtain ⟨v1, hv1, hm1⟩ := pickH hp1 (r := r1) (by show r1 < 4; omega)
    obtain ⟨x, ex, hx1, hx2, hx3⟩ : ∃ x, v1 = .str x ∧ 1 ≤ x.length ∧ x.length ≤ 100 ∧ signsOk x := by
      simp only [List.mem_cons, List.not_mem_nil, or_false] at hm1
      rcases hm1 with rfl | rfl | rfl | rfl <;> exact ⟨_, rfl, by decide +kernel, by decide +kernel, by unfold signsOk; decide +kernel⟩
    subst ex
    refine ⟨p1, _, r1, _, rfl, rfl, SqL.of hp1, atI_nat hv1, hU _ _ (seq_hide fun U hU => ?_)⟩
    refine ⟨by show (4 : Nat) ≤ _; omega, fun p2 np2 => ⟨_, rfl, z, 4, rfl, (A1.new np2).2, by decide, by decide, fun r2 H2 hr2' a2 => ?_⟩⟩
    have A2 : Aft z H H2 := (A1.new np2).trans a2
    have hp2 := a2.1 p2 _ (A1.2.ne np2) upd_same
    obtain ⟨v2, hv2, hm2⟩ := pickH hp2 (r := r2) (by show r2 < 4; omega)
    obtain ⟨e, ee, he1⟩ : ∃ x, v2 = .str x ∧ escD (.str x) = true := by
      simp only [List.mem_cons, List.not_mem_nil, or_false] at hm2
      rcases hm2 with rfl | rfl | rfl | rfl <;> exact ⟨_, rfl, by decide +kernel⟩
    subst ee
    refine ⟨p2, _, r2, _, rfl, rfl, SqL.of hp2, atI_nat hv2, hU _ _ (seq_hide fun U hU => ?_)⟩
    refine ⟨_, rfl, by show (3 : Nat) ≤ _; omega, fun p3 np3 => ⟨_, rfl, z, 3, rfl, (A2.new np3).2, by decide, by decide, fun r3 H3 hr3 a3 => ?_⟩⟩
    have A3 : Aft z H H3 := (A2.new np3).trans a3
    have hp3 := a3.1 p3 _ (A2.2.ne np3) upd_same
    obtain ⟨v3, hv3, hm3⟩ := pickH hp3 (r := r3) (by show r3 < 3; omega)
    obtain ⟨n3, en, hn1, hn2⟩ : ∃ n : Int, v3 = .int n ∧ 0 < n ∧ n ≤ 6 := by
      simp only [List.mem_cons, List.not_mem_nil, or_false] at hm3
      rcases hm3 with rfl | rfl | rfl <;> exact ⟨_, rfl, by decide, by decide⟩
    subst en
    refine ⟨p3, _, r3, _, rfl, rfl, SqL.of hp3, atI_nat hv3, z, n3, rfl, A3.2, hn1, by omega, fun r4 H4 hr4 a4 => ?_⟩
    have A4 : Aft z H H4 := A3.trans a4
    refine ⟨1, r4, rfl, rfl, hU _ _ (seq_hide fun U hU => ?_)⟩
    refine ⟨_, rfl, 1 + r4, rfl, by omega, by omega, fun p np => ?_⟩
    have enat : (1 + (r4 : Int)).toNat = 1 + r4 := by omega
    rw [enat]
    have hpz := A4.2.ne np
    have hpH := A4.none np
    refine loop_range (fun i σ H5 => ∃ u, σ = [u, some (.ref z), some (.str e)] ∧ Aft z H H5 ∧ ∃ b, LBk z p b H5 ∧ b.length = i ∧ ∀ t ∈ b, t.2 = [] ∧ escD (.str t.1) = true) ⟨none, rfl, A4.new np, [], ⟨hpz, [], upd_same, .nil⟩, rfl, by simp⟩ ?_ ?_
    · rintro i σ H5 hi ⟨u, rfl, A5, b, L5, hbl, hb⟩
      refine ⟨_, rfl, by show (3 : Nat) ≤ _; omega, fun l nl => ⟨_, rfl, z, 3, rfl, (A5.new nl).2, by decide, by decide, fun r H6 hr6 a6 => ?_⟩⟩
      have A56 : Aft z H5 H6 := ((Aft.refl A5.2).new nl).trans a6
      have hl6 := a6.1 l _ (A5.2.ne nl) upd_same
      obtain ⟨v6, hv6, hm6⟩ := pickH hl6 (r := r) (by show r < 3; omega)
      obtain ⟨y, ey, hy1⟩ : ∃ x, v6 = .str x ∧ escD (.str x) = true := by
        simp only [List.mem_cons, List.not_mem_nil, or_false] at hm6
        rcases hm6 with rfl | rfl | rfl
        · exact ⟨_, rfl, he1⟩
        · exact ⟨_, rfl, by decide +kernel⟩
        · exact ⟨_, rfl, by decide +kernel⟩
      subst ey
      have hyl : y.length ≤ 1 := by unfold escD at hy1; simp at hy1; exact hy1.1
      refine ⟨l, _, r, _, rfl, rfl, SqL.of hl6, atI_nat hv6, Nat.zero_le _, fun q1 nq1 => ⟨by show (2 : Nat) ≤ _; omega, fun q2 nq2 => ?_⟩⟩
      have A58 := (A56.new (o := .tup []) nq1).new (o := .tup [.str y, .ref q1]) nq2
      have h8q2 : upd (upd H6 q1 (.tup [])) q2 (.tup [.str y, .ref q1]) q2 = some (.tup [.str y, .ref q1]) := upd_same
      have h8q1 : upd (upd H6 q1 (.tup [])) q2 (.tup [.str y, .ref q1]) q1 = some (.tup []) := Same.new nq2 _ _ upd_same
      generalize upd (upd H6 q1 (.tup [])) q2 (.tup [.str y, .ref q1]) = H8 at A58 h8q2 h8q1
      obtain ⟨_, vs, hp8, r8⟩ := L5.aft A58.1
      have hvl : vs.length = b.length := by have := r8.length; simpa using this
      refine ⟨vs, hp8, by omega, ⟨_, rfl, (A5.trans A58).upd hpH hpz, b ++ [(y, [])], ⟨hpz, vs ++ [.ref q2], upd_same, ?_⟩, by simp [hbl], fun t ht => ?_⟩⟩
      · rw [mask_upd, List.map_append]
        have n2 : q2 ≠ p := ne_of h8q2 hp8 (by intro z; cases z)
        have n1 : q1 ≠ p := ne_of h8q1 hp8 (by intro z; cases z)
        exact r8.append (.cons (.tup (by rw [mask_ne n2]; exact h8q2) (A58.2.neT h8q2) (.cons (.str y (by omega)) (.cons (.tup (by rw [mask_ne n1]; exact h8q1) (A58.2.neT h8q1) .nil) .nil))) .nil)
      · rcases List.mem_append.mp ht with ht | ht
        · exact hb t ht
        · have : t = (y, []) := by simpa using ht
          subst this
          exact ⟨rfl, hy1⟩
    · rintro σ H5 ⟨u, rfl, A5, b, L5, hbl, hb⟩
      refine hU _ _ (seq_hide fun U hU => ?_)
      refine ⟨_, rfl, _, rfl, 3, 1 + r4, rfl, rfl, .inl ⟨by decide, by decide⟩, z, 3 * (1 + r4), rfl, A5.2, by omega, by omega, fun r5 H6 hr5 a6 => ?_⟩
      refine ⟨2, r5, rfl, rfl, 2 + r5, rfl, by omega, by omega, ?_⟩
      have hok0 : ∀ t ∈ b, TgOk b.length t := fun t ht => by
        obtain ⟨h1, h2⟩ := hb t ht
        refine ⟨h2, by rw [h1]; decide, fun d hd => ?_⟩
        rw [h1] at hd
        cases hd
      refine for_range (fun i σ H7 => ∃ a b u5 u6 u7 u8, σ = [some (.ref z), some (.str x), some (.str e), some (.int (1 + r4)), some (.ref a), u5, u6, u7, u8] ∧ Aft z H H7 ∧ LBk z a b H7 ∧ b.length = 1 + r4 ∧ (∀ t ∈ b, TgOk b.length t) ∧ fitsB b = true)
        ⟨p, b, none, none, none, none, rfl, A5.trans a6, L5.aft a6.1, hbl, hok0, fits_empty fun t ht => (hb t ht).1⟩ ?_ ?_
      · clear hok0 hb hbl L5 hr5
        rintro i σ H7 hi ⟨a, b, u5, u6, u7, u8, rfl, A7, L7, hbl, hok, hfit⟩
        show (tSeq _ _) _ _ _
        refine D_hide fun D1 hD1 _ _ _ => seq_hide fun U1 hV => ?_
        refine ⟨_, rfl, _, rfl, z, 1 + r4, rfl, A7.2, by omega, by omega, fun r6 H8 hr6 a8 => ?_⟩
        refine ⟨by show (2 : Nat) ≤ _; omega, fun p4 np4 => ⟨_, rfl, z, 2, rfl, (a8.new np4).2, by decide, by decide, fun r7 H9 hr7 a9 => ?_⟩⟩
        have A9 : Aft z H7 H9 := (a8.new np4).trans a9
        have hp9 := a9.1 p4 _ (a8.2.ne np4) upd_same
        obtain ⟨at', hat, hatm⟩ : ∃ at' : Nat, ([V.int 0, V.int r6] : List V)[r7]? = some (.int at') ∧ at' < 1 + r4 := by
          match r7, hr7 with
          | 0, _ => exact ⟨0, rfl, by omega⟩
          | 1, _ => exact ⟨r6, rfl, by omega⟩
          | m + 2, h => omega
        refine ⟨p4, _, r7, _, rfl, rfl, SqL.of hp9, atI_nat hat, hV _ _ (seq_hide fun U1 hV => ?_)⟩
        refine ⟨_, rfl, _, rfl, z, x, rfl, A9.2, hx1, hx2, hx3, fun m1 H10 hm1 a10 => ⟨_, rfl, _, rfl, z, 1 + r4, rfl, a10.2, by omega, by omega, fun r8 H11 hr8 a11 => ⟨_, rfl, _, rfl, z, x, rfl, a11.2, hx1, hx2, hx3, fun m2 H12 hm2 a12 => ⟨by show (3 : Nat) ≤ _; omega, fun q0 nq0 => hV _ _ (seq_hide fun U1 hV => ?_)⟩⟩⟩⟩
        have A13 := (((A9.trans a10).trans a11).trans a12).new (o := .tup [.str m1, .int r8, .str m2]) nq0
        have hq0 : upd H12 q0 (.tup [.str m1, .int r8, .str m2]) q0 = some (.tup [.str m1, .int r8, .str m2]) := upd_same
        generalize upd H12 q0 (.tup [.str m1, .int r8, .str m2]) = H13 at A13 hq0
        obtain ⟨haz, vs, ha13, R13⟩ := L7.aft A13.1
        have hvl : vs.length = b.length := by have := R13.length; simpa using this
        refine ⟨_, rfl, a, vs, rfl, .inl (SqL.of ha13), fun l nl => hV _ _ (seq_hide fun U1 hV => ?_)⟩
        have hatb : at' < b.length := by omega
        have htok := hok _ (getD_mem tg0 hatb)
        obtain ⟨c, d, ys, ec, hcz, hdz, hc, hd, hyl, Ry⟩ := rep_tongue (reps_tongue (b := b) (i := at') R13 hatb)
        have hyl : ys.length = (b.getD at' tg0).2.length := hyl
        have exv : vs[at']? = some (.ref c) := by
          have h1 : at' < vs.length := by omega
          have h2 : vs.getD at' .non = vs[at'] := by simp [h1]
          rw [List.getElem?_eq_getElem h1, ← h2, ec]
        generalize hT : b.getD at' tg0 = tt at *
        have hc13 := (mask_some hc).2
        have hd13 := (mask_some hd).2
        have s14 : Same H13 (upd H13 l (.lst vs)) := Same.new nl
        have few := htok.2.1
        have el : tt.1.length ≤ 1 := by have := htok.1; unfold escD at this; simp at this; exact this.1
        refine ⟨_, rfl, _, rfl, a, vs, at', _, rfl, rfl, SqL.of (s14 _ _ ha13), atI_nat exv, c, _, 0, _, rfl, rfl, SqT.of (s14 _ _ hc13), atI_nat (j := 0) rfl, _, rfl, _, rfl, a, vs, at', _, rfl, rfl, SqL.of (s14 _ _ ha13), atI_nat exv, c, _, 1, _, rfl, rfl, SqT.of (s14 _ _ hc13), atI_nat (j := 1) rfl, _, rfl, by show (1 : Nat) ≤ _; omega, fun q1 nq1 => ?_⟩
        have s15 := Same.new (o := .tup [.ref q0]) nq1
        refine ⟨d, q1, ys, [.ref q0], rfl, rfl, s15 _ _ (s14 _ _ hd13), upd_same, by show ys.length + 1 ≤ _; omega, fun p2 H16 s16 hp2 => ⟨by show (2 : Nat) ≤ _; omega, fun q3 nq3 => ?_⟩⟩
        have s17 := Same.new (o := .tup [.str tt.1, .ref p2]) nq3
        have hq3 : upd H16 q3 (.tup [.str tt.1, .ref p2]) q3 = some (.tup [.str tt.1, .ref p2]) := upd_same
        have hl17 := s17 _ _ (s16 _ _ (s15 _ _ (upd_same (H := H13) (a := l) (o := .lst vs))))
        have hp17 := s17 _ _ hp2
        have sAll : Same H13 (upd H16 q3 (.tup [.str tt.1, .ref p2])) := s14.trans (s15.trans (s16.trans s17))
        generalize upd H16 q3 (.tup [.str tt.1, .ref p2]) = H17 at hq3 hl17 hp17 sAll
        refine ⟨_, rfl, _, rfl, l, vs, at', at', rfl, rfl, hl17, ixN_nat (by omega), hV _ _ ?_⟩
        have hlz := A13.2.ne nl
        have A18 : Aft z H7 (upd H17 l (.lst (vs.set at' (.ref q3)))) := (A13.same sAll).upd (A13.none nl) hlz
        have S18 : Aft z H13 (upd H17 l (.lst (vs.set at' (.ref q3)))) := ((Aft.refl A13.2).same sAll).upd nl hlz
        have hl18 : upd H17 l (.lst (vs.set at' (.ref q3))) l = some (.lst (vs.set at' (.ref q3))) := upd_same
        have hmask : mask l (upd H17 l (.lst (vs.set at' (.ref q3)))) = mask l H17 := mask_upd
        generalize upd H17 l (.lst (vs.set at' (.ref q3))) = H18 at A18 S18 hl18 hmask
        have L18 : LBk z l (b.set at' (tt.1, tt.2 ++ [(m1, (r8 : Int), m2)])) H18 := by
          refine ⟨hlz, _, hl18, ?_⟩
          rw [hmask, List.map_set]
          have n3 : q3 ≠ l := ne_of hq3 hl17 (by intro z; cases z)
          have n2 : p2 ≠ l := ne_of hp17 hl17 (by intro z; cases z)
          have n0 : q0 ≠ l := ne_of (sAll _ _ hq0) hl17 (by intro z; cases z)
          have b17 : Bag z H17 := (A13.same sAll).2
          have g1 := markS_len hm1
          have g2 := markS_len hm2
          refine Reps.set (.tup (by rw [mask_ne n3]; exact hq3) (b17.neT hq3) (.cons (.str tt.1 (by omega)) (.cons (.tup (by rw [mask_ne n2]; exact hp17) (b17.neT hp17) ?_) .nil))) at' (R13.mono (mask_new nl sAll.x))
          rw [List.map_append]
          exact (Ry.mono (mask_new nl sAll.x)).append (.cons (.tup (by rw [mask_ne n0]; exact sAll _ _ hq0) (A13.2.neT hq0) (.cons (.str m1 (by omega)) (.cons (.int (r8 : Int)) (.cons (.str m2 (by omega)) .nil)))) .nil)
        have La := L7.aft A18.1
        refine ⟨_, rfl, _, rfl, a, vs, at', _, rfl, rfl, SqL.of (S18.1 _ _ haz ha13), atI_nat exv, c, _, 1, _, rfl, rfl, SqT.of (S18.1 _ _ hcz hc13), atI_nat (j := 1) rfl, d, ys, rfl, .inr (SqT.of (S18.1 _ _ hdz hd13)), _, _, rfl, rfl, _, rfl, ?_⟩
        refine ite2 (fun g1 => ?_) (fun g1 => ?_)
        · have few6 : tt.2.length < 6 := by
            have := of_decide_eq_true g1
            omega
          have hbl' : (b.set at' (tt.1, tt.2 ++ [(m1, (r8 : Int), m2)])).length = b.length := by simp
          have hok' : ∀ t ∈ b.set at' (tt.1, tt.2 ++ [(m1, (r8 : Int), m2)]), TgOk (b.set at' (tt.1, tt.2 ++ [(m1, (r8 : Int), m2)])).length t := by
            rw [hbl']
            intro t ht
            rcases List.mem_or_eq_of_mem_set ht with ht | ht
            · exact hok t ht
            · subst ht
              refine ⟨htok.1, by simp; omega, fun dr hdr => ?_⟩
              rcases List.mem_append.mp hdr with hdr | hdr
              · exact htok.2.2 dr hdr
              · have : dr = (m1, (r8 : Int), m2) := by simpa using hdr
                subst this
                exact ⟨hm1, ⟨by show (0 : Int) ≤ r8; omega, by show (r8 : Int) < b.length; omega⟩, hm2⟩
          obtain ⟨_, ws, hw, Rw⟩ := id L18
          refine ⟨_, rfl, z, l, ws, _, rfl, .inr hw, Rw.mono mask_le, by omega, hok', fun H19 s19 => ⟨_, rfl, ?_⟩⟩
          cases gf : fitsB (b.set at' (tt.1, tt.2 ++ [(m1, (r8 : Int), m2)])) with
          | true => exact iteT ⟨_, rfl, hD1 _ _ ⟨l, _, _, _, _, _, rfl, A7.trans (A18.same s19), L18.aft s19.x, by omega, hok', gf⟩⟩
          | false => exact iteF (hD1 _ _ ⟨a, b, _, _, _, _, rfl, A7.trans (A18.same s19), La.aft s19.x, hbl, hok, hfit⟩)
        · exact iteF (hD1 _ _ ⟨a, b, _, _, _, _, rfl, A7.trans A18, La, hbl, hok, hfit⟩)
      · rintro σ H7 ⟨a, b, u5, u6, u7, u8, rfl, A7, L7, hbl, hok, hfit⟩
        obtain ⟨haz, vs, ha, R7⟩ := L7
        refine hU _ _ ⟨_, rfl, a, vs, rfl, .inl ⟨SqL.of ha, fun l nl => k _ b _ (A7.new nl) (.tup upd_same (A7.2.ne nl) ((R7.mono mask_le).mono (Same.new nl).x)) ⟨by omega, by omega, hok, ?_⟩⟩⟩
        rw [← fits_book hok]
        exact hfit
end
end T1
namespace T1
open PySem L2
def Sm (m : Str) : Prop := 1 ≤ m.length ∧ m.length ≤ 4
inductive spLMarks : List V → Hp → VK → XK → Prop where
  | mk {vs : List V} {H : Hp} {Q : VK} {E : XK} (z v b : _) (c1 : vs = [v]) (c2 : Rep z H v (bkD b)) (c3 : BkOk b) (c4 : ∀ p (ms : List Str) H', Same H H' → H p = none → H' p = some (.lst (ms.map V.str)) → ms.length ≤ 100 → (∀ m ∈ ms, Sm m) → Q (.ref p) H') : spLMarks vs H Q E
inductive spText : List V → Hp → VK → XK → Prop where
  | mk {vs : List V} {H : Hp} {Q : VK} {E : XK} (z v b : _) (n : Nat) (c1 : vs = [.ref z, v, .int n]) (c2 : Bag z H) (c3 : Rep z H v (bkD b)) (c4 : BkOk b) (c5 : 0 < n) (c6 : n ≤ 4000) (c7 : ∀ x H', Aft z H H' → x.length ≤ 4 * n → Q (.str x) H') : spText vs H Q E
section
variable {P : Program} {w : World} {K : PySem.W.Frag} {mg : Str → Option Value} {base : Heap}
theorem scLMarks : FnScope ["book", "found", "escape", "doors", "door"] ["book"] (defScope lMarks) := ⟨rfl, rfl, rfl, by decide +kernel, rfl, by decide +kernel, by decide +kernel⟩
set_option maxHeartbeats 0 in
theorem ok_lmarks {f : Addr} {fd : FuncData} (F : Fun K "_law_marks" "_law_marks" lMarks f fd) : FnOk P w K mg base CX0 1 f fd ["book"] spLMarks := by
  refine F.ok scLMarks (fun vs H Q E h => ?_) (fun cdv A outer s H vs Q E hr h => ?_)
  · obtain ⟨z, v, b, rfl, _⟩ := h
    rfl
  · obtain ⟨z, v, b, rfl, R0, hok, k⟩ := h
    obtain ⟨a, xs, rfl, haz, ha, hxl, R⟩ := rep_book R0
    obtain ⟨hb1, hb6, htok, _⟩ := hok
    have nd := scLMarks.nd
    refine ⟨_, pss_cons (ps_set (i := 1) nd rfl (Or.inl rfl) (pe_lst pa_nil))
      (pss_cons (ps_for PassesOwn.never rfl (pi_tup (pv 0)) (pg_tup rfl (pgs_cons (pg_name (i := 2) nd rfl (Or.inl rfl)) (pgs_cons (pg_name (i := 3) nd rfl (Or.inl rfl)) pgs_nil)))
        (pss_cons (ps_for PassesOwn.never rfl (pi_tup (pv 3)) (pg_name (i := 4) nd rfl (Or.inl rfl)) (pss_one (ps_set (i := 1) nd rfl (Or.inl rfl) (pe_op op_cat (pv 1) (pe_lst (pa_cons (pe_ix ix_tup (pv 4) pe_int (fun _ _ => rfl)) (pa_cons (pe_ix ix_tup (pv 4) pe_int (fun _ _ => rfl)) pa_nil)))))))
        (pss_one (ps_if (pt_cmpR op_ne (pv 2) pe_str (nomark _)) (pss_one (ps_expr (pe_bm PySem.F.plainAttrs_list PySem.F.slot_list_append PySem.F.type_list_append mt_append (pv 1) (pa_cons (pv 2) pa_nil)))) pss_nil))))
      (pss_one (ps_ret (pv 1)))), ?_⟩
    dsimp only [cxOf, Cx.nox, Cx.wish]
    have big := big1000
    refine ⟨Nat.zero_le _, fun p0 np0 => ?_⟩
    have s0 : Same H (upd H p0 (.lst [])) := Same.new np0
    refine ⟨_, rfl, a, rfl, ⟨_, SqT.of (s0 _ _ ha)⟩, for_tup (K := K) (a := a) (xs := xs) (fun i σ H2 => ∃ p ms u2 u3 u4, σ = [some (.ref a), some (.ref p), u2, u3, u4] ∧ Same H H2 ∧ H p = none ∧ H2 p = some (.lst (ms.map V.str)) ∧ ms.length ≤ 13 * i ∧ ∀ m ∈ ms, Sm m)
      ⟨p0, [], none, none, none, rfl, s0, np0, by rw [upd_same]; rfl, by simp, by simp⟩ (fun i σ H2 _ ⟨_, _, _, _, _, _, s, _⟩ => SqT.of (s _ _ ha)) ?_ ?_⟩
    · rintro i y σ H2 hi ⟨p, ms, u2, u3, u4, rfl, s2, np, hp, hml, hms⟩
      have hil : i < b.length := by have := (List.getElem?_eq_some_iff.mp hi).1; omega
      have ey : y = xs.getD i .non := by rw [List.getD_eq_getElem?_getD, hi]; rfl
      have tok := htok _ (getD_mem tg0 hil)
      obtain ⟨c, d, ys, e, hcz, hdz, hc, hd, hyl, Ry⟩ := rep_tongue (reps_tongue (b := b) (i := i) R hil)
      have hyl : ys.length = (b.getD i tg0).2.length := hyl
      rw [ey, e]
      generalize hT : b.getD i tg0 = tt at *
      have few := tok.2.1
      refine ⟨c, _, rfl, SqT.of (s2 _ _ hc), rfl, _, _, rfl, _, _, rfl, rfl, ?_⟩
      refine ⟨_, rfl, d, rfl, ⟨_, SqT.of (s2 _ _ hd)⟩, for_tup (K := K) (a := d) (xs := ys) (fun j σ H3 => ∃ p ms u4, σ = [some (.ref a), some (.ref p), some (.str tt.1), some (.ref d), u4] ∧ Same H H3 ∧ H p = none ∧ H3 p = some (.lst (ms.map V.str)) ∧ ms.length ≤ 13 * i + 2 * j ∧ ∀ m ∈ ms, Sm m)
        ⟨p, ms, _, rfl, s2, np, hp, by omega, hms⟩ (fun j σ H3 _ ⟨_, _, _, _, s, _⟩ => SqT.of (s _ _ hd)) ?_ ?_⟩
      · rintro j y2 σ H3 hj ⟨p, ms, u4, rfl, s3, np, hp, hml, hms⟩
        have hjl : j < tt.2.length := by have := (List.getElem?_eq_some_iff.mp hj).1; omega
        have ey2 : y2 = ys.getD j .non := by rw [List.getD_eq_getElem?_getD, hj]; rfl
        obtain ⟨q, e2, hqz, hq⟩ := rep_door (reps_door (ds := tt.2) (i := j) Ry hjl)
        have dok := tok.2.2 _ (getD_mem dr0 hjl)
        rw [ey2, e2]
        refine ⟨_, rfl, _, rfl, q, _, 0, _, rfl, rfl, SqT.of (s3 _ _ hq), atI_nat (j := 0) rfl, _, rfl, q, _, 2, _, rfl, rfl, SqT.of (s3 _ _ hq), atI_nat (j := 2) rfl, by show (2 : Nat) ≤ _; omega, fun l nl => ?_⟩
        have s4 := Same.new (o := .lst [.str (tt.2.getD j dr0).1, .str (tt.2.getD j dr0).2.2]) nl
        refine ⟨p, l, ms.map V.str, _, rfl, rfl, s4 _ _ hp, upd_same, by rw [List.length_map]; show _ + 2 ≤ _; omega, fun p2 np2 => ?_⟩
        have s5 := Same.new (o := .lst (ms.map V.str ++ [.str (tt.2.getD j dr0).1, .str (tt.2.getD j dr0).2.2])) np2
        refine ⟨p2, ms ++ [(tt.2.getD j dr0).1, (tt.2.getD j dr0).2.2], _, rfl, (s3.trans s4).trans s5, (s3.trans s4).free np2, by rw [upd_same]; simp, by rw [List.length_append]; show _ + 2 ≤ _; omega, fun m hm => ?_⟩
        rcases List.mem_append.mp hm with hm | hm
        · exact hms m hm
        · have g1 := markS_len dok.1
          have g2 := markS_len dok.2.2
          simp only [List.mem_cons, List.not_mem_nil, or_false] at hm
          rcases hm with rfl | rfl
          · exact ⟨g1.2, g1.1⟩
          · exact ⟨g2.2, g2.1⟩
      · rintro σ H3 ⟨p, ms, u4, rfl, s3, np, hp, hml, hms⟩
        refine ⟨_, rfl, rfl, _, rfl, ?_⟩
        have el : tt.1.length ≤ 1 := by have := tok.1; unfold escD at this; simp at this; exact this.1
        refine ite2 (fun g => ?_) (fun g => ?_)
        · refine ⟨_, rfl, .inl ⟨rfl, _, SqL.of hp⟩, _, rfl, p, _, _, rfl, rfl, hp, by rw [List.length_map]; omega, ?_⟩
          refine ⟨p, ms ++ [tt.1], _, _, _, rfl, fun b' o e' => by rw [upd_ne (ne_of_none e' np)]; exact s3 b' o e', np, by rw [upd_same]; simp, by rw [List.length_append]; show _ + 1 ≤ _; omega, fun m hm => ?_⟩
          rcases List.mem_append.mp hm with hm | hm
          · exact hms m hm
          · have : m = tt.1 := by simpa using hm
            subst this
            refine ⟨?_, by omega⟩
            rcases escD_cases tt.1 el with ⟨ex, _⟩ | ⟨c', ex, _⟩
            · rw [ex] at g
              simp at g
            · rw [ex]
              show 1 ≤ 1
              exact Nat.le_refl _
        · exact ⟨p, ms, _, _, _, rfl, s3, np, hp, by omega, hms⟩
    · rintro σ H2 ⟨p, ms, u2, u3, u4, rfl, s2, np, hp, hml, hms⟩
      exact ⟨_, rfl, k p ms H2 s2 np hp (by omega) hms⟩
theorem scText : FnScope ["bag", "book", "most", "some", "found", "turn", "one"] ["bag", "book", "most"] (defScope lText) := ⟨rfl, rfl, rfl, by decide +kernel, rfl, by decide +kernel, by decide +kernel⟩
theorem cutS_len (z : Str) (lo hi : Option Int) : (cutS z lo hi).length ≤ z.length := by
  unfold cutS
  show (List.toArray _).size ≤ _
  rw [List.size_toArray, List.length_take, List.length_drop]
  have : z.cps.toList.length = z.length := by simp; rfl
  omega
theorem five_sm : ∀ m ∈ [Str.ofString "x", Str.ofString " ", Str.ofString "a", Str.ofString "b", Str.ofString "\n"], 1 ≤ m.length ∧ m.length ≤ 4 := by decide +kernel
set_option maxHeartbeats 0 in
theorem ok_text {f f1 f2 : Addr} {fd fd1 fd2 : FuncData} (F : Fun K "_law_text" "_law_text" lText f fd) (T : TxtB mg)
    (k1 : PySem.W.keepIn K (.ref f1) = true) (b1 : Binds K fd1 ["bag", "many"] []) (m1 : mg "_law_take" = some (.ref f1)) (G1 : FnOk P w K mg base CX0 1 f1 fd1 ["bag", "many"] spTake)
    (k2 : PySem.W.keepIn K (.ref f2) = true) (b2 : Binds K fd2 ["book"] []) (m2 : mg "_law_marks" = some (.ref f2)) (G2 : FnOk P w K mg base CX0 1 f2 fd2 ["book"] spLMarks) : FnOk P w K mg base CX0 2 f fd ["bag", "book", "most"] spText := by
  refine F.ok scText (fun vs H Q E h => ?_) (fun cdv A outer s H vs Q E hr h => ?_)
  · obtain ⟨z, v, b, n, rfl, _⟩ := h
    rfl
  · obtain ⟨z, v, b, n, rfl, hB, R, hok, hn1, hn2, k⟩ := h
    have nd := scText.nd
    refine ⟨_, pss_cons (ps_set (i := 3) nd rfl (Or.inl rfl) (pe_op op_cat (pe_call G2 hr rfl m2 k2 b2 .nil pass0 (pa_cons (pv 1) pa_nil)) (pe_lst (pa_K pe_str (pa_K pe_str (pa_K pe_str (pa_K pe_str (pa_K pe_str pa_nil))))))))
      (pss_cons (ps_set (i := 4) nd rfl (Or.inl rfl) pe_str)
      (pss_cons (ps_for PassesOwn.never rfl (pi_range1 rfl T.range (pa_cons (pe_call G1 hr rfl m1 k1 b1 .nil pass0 (pa_cons (pv 0) (pa_cons (pv 2) pa_nil))) pa_nil)) (pg_name (i := 5) nd rfl (Or.inl rfl))
        (pss_cons (ps_set (i := 6) nd rfl (Or.inl rfl) (pe_ix ix_list (pv 3) (pe_call G1 hr rfl m1 k1 b1 .nil pass0 (pa_cons (pv 0) (pa_cons (pe_callB call_len_seq (by rfl) T.len b_len (pa_cons (pv 3) pa_nil)) pa_nil))) (fun _ _ => rfl)))
        (pss_cons (ps_if (pt_cmpR op_eq (pe_call G1 hr rfl m1 k1 b1 .nil pass0 (pa_cons (pv 0) (pa_cons pe_int pa_nil))) pe_int (nomark _))
          (pss_one (ps_set (i := 6) nd rfl (Or.inl rfl) (pe_slice sl_str (pv 6) po_none (po_some (pe_op op_add pe_int (pe_call G1 hr rfl m1 k1 b1 .nil pass0 (pa_cons (pv 0) (pa_cons (pe_callB call_len_str (by rfl) T.len b_len (pa_cons (pv 6) pa_nil)) pa_nil)))))))) pss_nil)
        (pss_one (ps_set (i := 4) nd rfl (Or.inl rfl) (pe_op op_add_str (pv 4) (pv 6)))))))
      (pss_one (ps_ret (pv 4))))), ?_⟩
    dsimp only [cxOf, Cx.nox, Cx.wish]
    have big := big1000
    have big2 : (100000 : Nat) ≤ sizeLine := by rw [sizeLine_eq]; decide
    refine ⟨_, rfl, z, v, b, rfl, R, hok, fun p1 ms H1 s1 np1 hp1 hml hms => ⟨by show (5 : Nat) ≤ _; omega, fun l nl => ?_⟩⟩
    have s2 := Same.new (o := .lst ([Str.ofString "x", Str.ofString " ", Str.ofString "a", Str.ofString "b", Str.ofString "\n"].map V.str)) nl
    refine ⟨p1, l, ms.map V.str, [Str.ofString "x", Str.ofString " ", Str.ofString "a", Str.ofString "b", Str.ofString "\n"].map V.str, rfl, rfl, s2 _ _ hp1, upd_same, by rw [List.length_map]; show _ + 5 ≤ _; omega, fun p2 np2 => ?_⟩
    have np2 : upd H1 l (.lst ([Str.ofString "x", Str.ofString " ", Str.ofString "a", Str.ofString "b", Str.ofString "\n"].map V.str)) p2 = none := np2
    have emap : ms.map V.str ++ [Str.ofString "x", Str.ofString " ", Str.ofString "a", Str.ofString "b", Str.ofString "\n"].map V.str = (ms ++ [Str.ofString "x", Str.ofString " ", Str.ofString "a", Str.ofString "b", Str.ofString "\n"]).map V.str := (List.map_append ..).symm
    rw [emap]
    have five := five_sm
    show (tSeq _ _) _ _ (upd (upd H1 l (.lst ([Str.ofString "x", Str.ofString " ", Str.ofString "a", Str.ofString "b", Str.ofString "\n"].map V.str))) p2 (.lst ((ms ++ [Str.ofString "x", Str.ofString " ", Str.ofString "a", Str.ofString "b", Str.ofString "\n"]).map V.str)))
    clear emap
    have h5 : [Str.ofString "x", Str.ofString " ", Str.ofString "a", Str.ofString "b", Str.ofString "\n"].length = 5 := rfl
    generalize [Str.ofString "x", Str.ofString " ", Str.ofString "a", Str.ofString "b", Str.ofString "\n"] = f5 at *
    have s3 := Same.new (o := .lst ((ms ++ f5).map V.str)) np2
    have hB2 := ((hB.same s1).same s2)
    have hz2 := hB2.ne np2
    have A3 : Aft z H (upd (upd H1 l (.lst (f5.map V.str))) p2 (.lst ((ms ++ f5).map V.str))) := (((Aft.refl hB).same s1).same s2).new np2
    have hp3 : upd (upd H1 l (.lst (f5.map V.str))) p2 (.lst ((ms ++ f5).map V.str)) p2 = some (.lst ((ms ++ f5).map V.str)) := upd_same
    generalize upd (upd H1 l (.lst (f5.map V.str))) p2 (.lst ((ms ++ f5).map V.str)) = H3 at A3 hp3
    have hall : ∀ m ∈ ms ++ f5, Sm m := fun m hm => (List.mem_append.mp hm).elim (hms m) (five m)
    have hlen : (ms ++ f5).length ≤ 105 := by rw [List.length_append]; omega
    have hlen1 : 1 ≤ (ms ++ f5).length := by rw [List.length_append]; omega
    generalize ms ++ f5 = so at *
    refine ⟨_, rfl, _, rfl, z, n, rfl, A3.2, by omega, by omega, fun r H4 hr4 a4 => ⟨r, rfl, by omega, by omega, ?_⟩⟩
    have hp4 := a4.1 _ _ hz2 hp3
    have A4 := A3.trans a4
    have er : ((r : Int)).toNat = r := Int.toNat_natCast r
    rw [er]
    have hlm : (so.map V.str).length = so.length := List.length_map ..
    refine for_range (fun i σ H5 => ∃ x u5 u6, σ = [some (.ref z), some v, some (.int n), some (.ref p2), some (.str x), u5, u6] ∧ Aft z H H5 ∧ H5 p2 = some (.lst (so.map V.str)) ∧ x.length ≤ 4 * i) ⟨_, none, none, rfl, A4, hp4, by decide +kernel⟩ ?_ ?_
    · rintro i σ H5 hi ⟨x, u5, u6, rfl, A5, hp5, hxl⟩
      refine ⟨_, rfl, _, rfl, _, rfl, p2, _, rfl, .inl (SqL.of hp5), z, (so.map V.str).length, rfl, A5.2, by omega, by omega, fun r2 H6 hr2 a6 => ?_⟩
      have hr3 : r2 < so.length := by omega
      have A6 := A5.trans a6
      have hp6 := a6.1 _ _ hz2 hp5
      obtain ⟨g1, g2⟩ := hall so[r2] (List.getElem_mem hr3)
      refine ⟨p2, _, r2, .str so[r2], rfl, rfl, SqL.of hp6, atI_nat (by simp [hr3]), ?_⟩
      generalize so[r2] = m at g1 g2
      refine ⟨_, rfl, z, 6, rfl, A6.2, by decide, by decide, fun r3 H7 hr7 a7 => ⟨rfl, _, rfl, ?_⟩⟩
      have A7 := A6.trans a7
      have hp7 := a7.1 _ _ hz2 hp6
      refine ite2 (fun g => ?_) (fun g => ?_)
      · refine ⟨_, rfl, _, rfl, _, rfl, m, rfl, by omega, z, m.length, rfl, A7.2, by omega, by omega, fun r4 H8 hr8 a8 => ⟨1, r4, rfl, rfl, _, rfl, m, rfl, by omega, ?_⟩⟩
        have hc := cutS_len m none (some (1 + (r4 : Int)))
        exact ⟨_, rfl, _, rfl, _, _, rfl, rfl, by omega, _, _, _, rfl, A7.trans a8, a8.1 _ _ hz2 hp7, by rw [str_len_append]; omega⟩
      · exact ⟨_, rfl, _, rfl, _, _, rfl, rfl, by omega, _, _, _, rfl, A7, hp7, by rw [str_len_append]; omega⟩
    · rintro σ H5 ⟨x, u5, u6, rfl, A5, hp5, hxl⟩
      exact ⟨_, rfl, k x H5 A5 (by omega)⟩
end
end T1
namespace T1
open PySem L2
abbrev LDr := Int × Int × Str
def ldD (d : LDr) : D := .tup [.int d.1, .int d.2.1, .str d.2.2]
abbrev ld0 : LDr := (0, 0, ⟨#[]⟩)
theorem noL_lds : ∀ ds : List LDr, NoLs (ds.map ldD)
  | [] => .nil
  | d :: r => .cons (.tup (.cons (.int _) (.cons (.int _) (.cons (.str _) .nil)))) (noL_lds r)
theorem rep_ld {z : Addr} {H : Hp} {v : V} {d : LDr} (r : Rep z H v (ldD d)) : ∃ a, v = .ref a ∧ a ≠ z ∧ H a = some (.tup [.int d.1, .int d.2.1, .str d.2.2]) := by
  cases r with
  | tup h hz r =>
    cases r with
    | cons r1 r =>
      cases r with
      | cons r2 r =>
        cases r with
        | cons r3 r =>
          cases r
          cases r1
          cases r2
          cases r3
          exact ⟨_, rfl, hz, h⟩
theorem reps_ld {z : Addr} {H : Hp} {xs : List V} {ds : List LDr} {i : Nat} (r : Reps z H xs (ds.map ldD)) (hi : i < ds.length) : Rep z H (xs.getD i .non) (ldD (ds.getD i ld0)) := by
  have := r.get (i := i) (by simpa using hi)
  simpa [hi] using this
def LdOk (b : Bk) (ds : List LDr) : Prop := ∀ d ∈ ds, (0 ≤ d.2.1 ∧ d.2.1 < b.length) ∧ Sm d.2.2
def tongueL (ds : List LDr) : Int := match ds.getLast? with
  | some d => d.2.1
  | none => 0
def lastL (ds : List LDr) : List LDr := ds.drop (ds.length - 1)
def fitAt (x : Str) (i : Nat) (m : Str) : Bool := decide (V.str (cutS x (some (i : Int)) (some ((i : Int) + m.length))) = V.str m)
def someL (b : Bk) (ds : List LDr) : List Str := opensOf (b.getD (tongueL ds).toNat tg0).2 ++ (lastL ds).map (·.2.2)
def fitL (b : Bk) (ds : List LDr) (x : Str) (i : Nat) : List Str := (someL b ds).filter (fitAt x i)
theorem cut_last (vs : List V) : cutV vs (some (-1)) none = vs.drop (vs.length - 1) := by
  unfold cutV
  have e : HT.sIx vs.length 0 (some (-1)) = vs.length - 1 := by
    show (if (-1 : Int) < 0 then ((-1 : Int) + (vs.length : Int)).toNat else min (-1 : Int).toNat vs.length) = _
    rw [if_pos (by decide)]
    omega
  rw [e, HT.sIx_none]
  rw [List.take_of_length_le]
  rw [List.length_drop]
  exact Nat.le_refl _
theorem flatN_filt (so : List Str) (d : Str) (p : Str → Bool) : ∀ n, n ≤ so.length → flatN (fun i => (if p (so.getD i d) then some (V.str (so.getD i d)) else none).toList) n = ((so.take n).filter p).map V.str
  | 0, _ => by simp [flatN]
  | n + 1, h => by
    have hn : n < so.length := h
    simp only [flatN]
    rw [flatN_filt so d p n (by omega), List.take_add_one, List.filter_append, List.map_append]
    congr 1
    have e : so.getD n d = so[n] := by simp [hn]
    rw [e, List.getElem?_eq_getElem hn]
    cases g : p so[n] <;> simp [g]
def LDs (z : Addr) (H : Hp) (q : Addr) (ds : List LDr) : Prop := ∃ vs, H q = some (.lst vs) ∧ Reps z H vs (ds.map ldD)
theorem LDs.same {z : Addr} {H H' : Hp} {q : Addr} {ds : List LDr} (h : LDs z H q ds) (s : Same H H') : LDs z H' q ds := let ⟨vs, a, r⟩ := h; ⟨vs, s _ _ a, r.mono s.x⟩
structure Wrp (G : Prop) : Prop where
  out : G
theorem ite_join {c A B G : Prop} [Decidable c] (h1 : c → Wrp G → A) (h2 : ¬ c → Wrp G → B) (g : G) : if c then A else B := by
  by_cases h : c
  · rw [if_pos h]
    exact h1 h ⟨g⟩
  · rw [if_neg h]
    exact h2 h ⟨g⟩
inductive spFitting : List V → Hp → VK → XK → Prop where
  | mk {vs : List V} {H : Hp} {Q : VK} {E : XK} (z v b q ds x : _) (i : Nat) (c1 : vs = [v, .ref q, .str x, .int i]) (c2 : Rep z H v (bkD b)) (c3 : BkOk b) (c4 : LDs z H q ds) (c5 : LdOk b ds) (c6 : x.length ≤ 20000) (c7 : ∀ p (ys : List Str) H', Same H H' → H p = none → H' p = some (.lst (ys.map V.str)) → ys.Perm (fitL b ds x i) → ys.Pairwise (fun a c => c.length ≤ a.length) → Q (.ref p) H') : spFitting vs H Q E
section
variable {P : Program} {w : World} {K : PySem.W.Frag} {mg : Str → Option Value} {base : Heap}
theorem scFitting : FnScope ["book", "doors", "text", "place", "tongue", "some"] ["book", "doors", "text", "place"] (defScope lFitting) := ⟨rfl, rfl, rfl, by decide +kernel, rfl, by decide +kernel, by decide +kernel⟩
theorem ndMPT : (["mark", "place", "text"] : List Str).Nodup := by decide +kernel
set_option maxHeartbeats 0 in
theorem ok_fitting {f : Addr} {fd : FuncData} (F : Fun K "_law_fitting" "_law_fitting" lFitting f fd) (T : TxtB mg) : FnOk P w K mg base CX0 1 f fd ["book", "doors", "text", "place"] spFitting := by
  refine F.ok scFitting (fun vs H Q E h => ?_) (fun cdv A outer s H vs Q E hr h => ?_)
  · obtain ⟨z, v, b, q, ds, x, i, rfl, _⟩ := h
    rfl
  · obtain ⟨z, v, b, q, ds, x, i, rfl, R0, hok, ⟨vs, hq, RD⟩, hld, hx, k⟩ := h
    obtain ⟨a, xs, rfl, haz, ha, hxl, R⟩ := rep_book R0
    obtain ⟨hb1, hb6, htok, _⟩ := hok
    have nd := scFitting.nd
    refine ⟨_, pss_cons (ps_set (i := 4) nd rfl (Or.inl rfl) pe_int)
      (pss_cons (ps_if (pt_cmpR (op_ne_nil hr.units0) (pv 1) (pe_lst pa_nil) (nomark _)) (pss_one (ps_set (i := 4) nd rfl (Or.inl rfl) (pe_ix ix_tup (pe_ix ix_list (pv 1) (pe_un un_neg pe_int) (fun _ _ => rfl)) pe_int (fun _ _ => rfl)))) pss_nil)
      (pss_cons (ps_set (i := 5) nd rfl (Or.inl rfl) (pe_op op_cat
          (pe_comp1 (N' := ["door"]) (js := [none]) rfl rfl (blk_of (defScope lFitting) (by decide +kernel)) trivial (pi_tup (pe_ix ix_tup (pe_ix ix_tup (pv 0) (pv 4) (fun _ _ => rfl)) pe_int (fun _ _ => rfl)))
            (fun cl s H fp => pg_name (i := 0) ndD rfl (Or.inl rfl)) (fun cl s H fp => pts_nil) (fun cl s H fp => pe_ix ix_tupB (pv 0) pe_int (fun _ _ => rfl)))
          (pe_comp1 (N' := ["door"]) (js := [none]) rfl rfl (blk_of (defScope lFitting) (by decide +kernel)) trivial (pi_list (pe_slice sl_list (pv 1) (po_some (pe_un un_neg pe_int)) po_none))
            (fun cl s H fp => pg_name (i := 0) ndD rfl (Or.inl rfl)) (fun cl s H fp => pts_nil) (fun cl s H fp => pe_ix ix_tupB (pv 0) pe_int (fun _ _ => rfl)))))
      (pss_one (ps_ret (pe_rev (pe_sorted_len T.sorted T.len (pe_comp1 (N' := ["mark", "place", "text"]) (js := [none, some 3, some 2]) rfl rfl (blk_of (defScope lFitting) (by decide +kernel)) ⟨rfl, Or.inr (Or.inl rfl), rfl, rfl, Or.inr (Or.inl rfl), rfl, trivial⟩ (pi_list (pv 5))
          (fun cl s H fp => pg_name (i := 0) ndMPT rfl (Or.inl rfl)) (fun cl s H fp => pts_one (pt_cmpR op_eq (pe_slice sl_str (pv 2) (po_some (pv 1)) (po_some (pe_op op_add (pv 1) (pe_callB call_len_str (by rfl) T.len b_len (pa_cons (pv 0) pa_nil))))) (pv 0) (nomark _))) (fun cl s H fp => pv 0))) (pe_un un_neg pe_int) (fun σ H Q Q' ⟨i, e, h⟩ hm => ⟨i, e, hm _ _ h⟩)))))), ?_⟩
    dsimp only [cxOf, Cx.nox, Cx.wish]
    have big := big1000
    have hvl : vs.length = ds.length := by have := RD.length; simpa using this
    refine ⟨_, rfl, Nat.zero_le _, fun l nl => ?_⟩
    have s1 := Same.new (o := .lst []) nl
    have hql : q ≠ l := ne_of_none hq nl
    refine ⟨q, l, vs, rfl, rfl, s1 _ _ hq, upd_same, _, rfl, ?_⟩
    generalize upd H l (.lst []) = H1 at s1
    obtain ⟨tN, htN, htl⟩ : ∃ tN : Nat, tongueL ds = (tN : Int) ∧ tN < b.length := by
      unfold tongueL
      cases g : ds.getLast? with
      | none => exact ⟨0, rfl, by omega⟩
      | some d =>
        have := (hld d (List.mem_of_getLast? g)).1
        exact ⟨d.2.1.toNat, by show d.2.1 = _; omega, by omega⟩
    refine ite_join (G := ?G) (fun hne g => ?g1) (fun hne g => ?g2) ?g3
    case g1 =>
      have hpos : 0 < ds.length := by
        cases vs with
        | nil => simp at hne
        | cons _ _ => simp at hvl; omega
      have hlast : ds.getLast? = some (ds.getD (ds.length - 1) ld0) := by
        rw [List.getLast?_eq_getElem?]
        have : ds.length - 1 < ds.length := by omega
        simp [this]
      have htd : (ds.getD (ds.length - 1) ld0).2.1 = (tN : Int) := by
        rw [← htN]
        unfold tongueL
        rw [hlast]
      obtain ⟨ad, ed, hadz, had⟩ := rep_ld ((reps_ld (ds := ds) (i := ds.length - 1) RD (by omega)).mono s1.x)
      have hat : atI vs (-1) = some (.ref ad) := by
        have e1 : ixN vs.length (-1) = some (vs.length - 1) := by
          unfold ixN
          rw [if_neg (by decide), if_pos (by omega)]
          congr 1
          omega
        unfold atI
        rw [e1]
        show vs[vs.length - 1]? = _
        have h1 : vs.length - 1 < vs.length := by omega
        have h2 : vs.getD (vs.length - 1) .non = vs[vs.length - 1] := by simp [h1]
        rw [List.getElem?_eq_getElem h1, ← h2, hvl, ed]
      refine ⟨_, rfl, 1, rfl, q, vs, -1, _, rfl, rfl, SqL.of (s1 _ _ hq), hat, ad, _, 1, _, rfl, rfl, SqT.of had, atI_nat (j := 1) rfl, ?_⟩
      show (tSeq _ _) _ [some (.ref a), some (.ref q), some (.str x), some (.int i), some (.int (ds.getD (ds.length - 1) ld0).2.1), none] _
      rw [htd]
      exact g.out
    case g2 =>
      have hz : ds.length = 0 := by
        cases vs with
        | nil => simp at hvl; omega
        | cons _ _ => simp at hne
      have htd : (some (V.int 0) : Option V) = some (V.int (tN : Int)) := by
        rw [← htN]
        unfold tongueL
        have : ds = [] := List.eq_nil_of_length_eq_zero hz
        rw [this]
        rfl
      show (tSeq _ _) _ [some (.ref a), some (.ref q), some (.str x), some (.int i), some (.int 0), none] _
      rw [htd]
      exact g.out
    case g3 =>
      obtain ⟨c, d, ys, ec, hcz, hdz, hc, hd, hyl, Ry⟩ := rep_tongue ((reps_tongue (b := b) (i := tN) R htl).mono s1.x)
      have exv : xs[tN]? = some (.ref c) := by
        have h1 : tN < xs.length := by omega
        have h2 : xs.getD tN .non = xs[tN] := by simp [h1]
        rw [List.getElem?_eq_getElem h1, ← h2, ec]
      have tok := htok _ (getD_mem tg0 htl)
      have hyl : ys.length = (b.getD tN tg0).2.length := hyl
      have etn : b.getD (tongueL ds).toNat tg0 = b.getD tN tg0 := by rw [htN]; rfl
      have hfit : fitL b ds x i = (opensOf (b.getD tN tg0).2 ++ (lastL ds).map (·.2.2)).filter (fitAt x i) := by unfold fitL someL; rw [etn]
      rw [hfit] at k
      clear hfit etn
      generalize hT : b.getD tN tg0 = tt at *
      have few := tok.2.1
      refine ⟨_, rfl, _, rfl, a, xs, tN, _, rfl, rfl, SqT.of (s1 _ _ ha), atI_nat exv, c, _, 1, _, rfl, rfl, SqT.of hc, atI_nat (j := 1) rfl, d, rfl, ⟨_, SqT.of hd⟩, fun pA npA => ?_⟩
      have hdp : d ≠ pA := ne_of_none hd npA
      refine loop_map (fun j => .str (tt.2.getD j dr0).1) (fun σ => ∃ v, σ = [v]) ⟨none, rfl⟩ npA (by omega) (itok_tup (xs := ys) (by rw [upd_ne hdp]; exact hd) hdp) (fun j σ H2 C hj ⟨v, hv⟩ hS2 hC => ?_) (fun σ H2 s2 hH2 => ?_)
      · subst hv
        obtain ⟨q3, e3, hq3z, hq3⟩ := rep_door ((reps_door (ds := tt.2) (i := j) Ry (by omega)).mono hS2.x)
        rw [e3]
        exact ⟨_, rfl, q3, _, 0, _, rfl, rfl, SqT.of hq3, atI_nat (j := 0) rfl, hC _ H2 ⟨_, rfl⟩ (Same.refl _)⟩
      have hO : H2 pA = some (.lst ((opensOf tt.2).map V.str)) := by
        rw [hH2, hyl]
        unfold opensOf
        rw [List.map_map]
        exact congrArg (fun x => some (HO.lst x)) (range_map tt.2 dr0 fun d => V.str d.1)
      have hq2 := s2 _ _ (s1 _ _ hq)
      refine ⟨_, rfl, 1, rfl, -1, rfl, q, vs, rfl, SqL.of hq2, fun lB nlB => ⟨lB, rfl, ⟨_, SqL.of upd_same⟩, fun pB npB => ?_⟩⟩
      have sB := Same.new (o := .lst (cutV vs (some (-1)) none)) nlB
      have hlB : upd H2 lB (.lst (cutV vs (some (-1)) none)) lB = some (.lst (vs.drop (vs.length - 1))) := by rw [upd_same, cut_last]
      have hlBp : lB ≠ pB := ne_of_none hlB npB
      have RL : Reps z (upd H2 lB (.lst (cutV vs (some (-1)) none))) (vs.drop (vs.length - 1)) ((lastL ds).map ldD) := by
        unfold lastL
        rw [List.map_drop, hvl]
        exact (RD.mono ((s1.trans s2).trans sB).x).drop _
      have hll : (vs.drop (vs.length - 1)).length = (lastL ds).length := by have := RL.length; simpa using this
      have hl1 : (lastL ds).length ≤ 1 := by unfold lastL; rw [List.length_drop]; omega
      refine loop_map (fun j => .str ((lastL ds).getD j ld0).2.2) (fun σ => ∃ v, σ = [v]) ⟨none, rfl⟩ npB (by omega) (itok_lst (xs := vs.drop (vs.length - 1)) (by rw [upd_ne hlBp]; exact hlB) hlBp) (fun j σ H3 C hj ⟨v, hv⟩ hS3 hC => ?_) (fun σ H3 s3 hH3 => ?_)
      · subst hv
        obtain ⟨q3, e3, hq3z, hq3⟩ := rep_ld ((reps_ld (ds := lastL ds) (i := j) RL (by omega)).mono hS3.x)
        rw [e3]
        exact ⟨_, rfl, q3, _, 2, _, rfl, rfl, SqT.of hq3, atI_nat (j := 2) rfl, hC _ H3 ⟨_, rfl⟩ (Same.refl _)⟩
      have hC3 : H3 pB = some (.lst (((lastL ds).map (·.2.2)).map V.str)) := by
        rw [hH3, hll, List.map_map]
        exact congrArg (fun x => some (HO.lst x)) (range_map (lastL ds) ld0 fun d => V.str d.2.2)
      have s23 := sB.trans s3
      have hopl : ((opensOf tt.2).map V.str).length ≤ 6 := by unfold opensOf; simp; omega
      have hcll : (((lastL ds).map (·.2.2)).map V.str).length ≤ 1 := by simp; omega
      refine ⟨pA, pB, _, _, rfl, rfl, s23 _ _ hO, hC3, by omega, fun pS npS => ?_⟩
      rw [← List.map_append]
      have s4 := Same.new (o := .lst ((opensOf tt.2 ++ (lastL ds).map (·.2.2)).map V.str)) npS
      have hpS : upd H3 pS (.lst ((opensOf tt.2 ++ (lastL ds).map (·.2.2)).map V.str)) pS = some (.lst ((opensOf tt.2 ++ (lastL ds).map (·.2.2)).map V.str)) := upd_same
      have S4 := ((s1.trans s2).trans s23).trans s4
      generalize upd H3 pS (.lst ((opensOf tt.2 ++ (lastL ds).map (·.2.2)).map V.str)) = H4 at S4 hpS
      have hsm : ∀ m ∈ opensOf tt.2 ++ (lastL ds).map (·.2.2), Sm m := fun m hm => by
        rcases List.mem_append.mp hm with hm | hm
        · obtain ⟨dd, hdd, rfl⟩ := List.mem_map.mp hm
          have g := markS_len (tok.2.2 dd hdd).1
          exact ⟨g.2, g.1⟩
        · obtain ⟨dd, hdd, rfl⟩ := List.mem_map.mp hm
          exact (hld dd (List.mem_of_mem_drop hdd)).2
      have hsl : (opensOf tt.2 ++ (lastL ds).map (·.2.2)).length ≤ 7 := by simp at hopl hcll ⊢; omega
      generalize opensOf tt.2 ++ (lastL ds).map (·.2.2) = so at *
      have hsm2 : (so.map V.str).length = so.length := List.length_map ..
      refine ⟨_, rfl, pS, rfl, ⟨_, SqL.of hpS⟩, fun pC npC => ?_⟩
      have hSC : pS ≠ pC := ne_of_none hpS npC
      refine loop_new (fun j => if fitAt x i (so.getD j ⟨#[]⟩) then some (.str (so.getD j ⟨#[]⟩)) else none) (fun σ => ∃ v, σ = [v, some (.int i), some (.str x)]) ⟨none, rfl⟩ npC (by omega) (itok_lst (xs := so.map V.str) (by rw [upd_ne hSC]; exact hpS) hSC) (fun j σ H5 C hj ⟨v, hv⟩ hS5 hC => ?_) (fun σ H5 s5 hH5 => ?_)
      · subst hv
        have hj' : j < so.length := by omega
        have ej : (so.map V.str).getD j .non = .str (so.getD j ⟨#[]⟩) := by simp [hj']
        have g := hsm _ (getD_mem ⟨#[]⟩ hj')
        rw [ej]
        have hC' := hC [some (.str (so.getD j ⟨#[]⟩)), some (.int i), some (.str x)] H5 ⟨_, rfl⟩ (Same.refl _)
        have hx2 : x.length ≤ sizeLine := by have : (20000 : Nat) ≤ sizeLine := by rw [sizeLine_eq]; decide
                                             omega
        refine ⟨_, rfl, _, rfl, i, rfl, _, rfl, _, rfl, _, rfl, by have := g.2; omega, i, _, rfl, rfl, _, rfl, x, rfl, hx2, _, rfl, rfl, _, rfl, ?_⟩
        show if fitAt x i (so.getD j ⟨#[]⟩) = true then _ else _
        cases g2 : fitAt x i (so.getD j ⟨#[]⟩) with
        | true =>
          rw [g2, if_pos rfl] at hC'
          exact iteT ⟨_, rfl, hC'⟩
        | false =>
          rw [g2, if_neg (by simp)] at hC'
          exact iteF hC'
      rw [hsm2, flatN_filt so ⟨#[]⟩ (fitAt x i) _ (Nat.le_refl _), List.take_length] at hH5
      have hfl : (so.filter (fitAt x i)).length ≤ 7 := Nat.le_trans (List.length_filter_le _ _) hsl
      refine ⟨pC, so.filter (fitAt x i), rfl, SqL.of hH5, by omega, fun y hy => by have := (hsm y (List.mem_filter.mp hy).1).2; omega, fun pT ys2 npT perm pw => ?_⟩
      have s6 := Same.new (o := .lst (ys2.map V.str)) npT
      refine ⟨1, rfl, pT, ys2.map V.str, rfl, rfl, SqL.of upd_same, fun pR npR => ?_⟩
      have s7 := Same.new (o := .lst (ys2.map V.str).reverse) npR
      refine k pR ys2.reverse _ ((S4.trans s5).trans (s6.trans s7)) (((S4.trans s5).trans s6).free npR) (by rw [upd_same, List.map_reverse]) ((List.reverse_perm ys2).trans perm) ?_
      rw [List.pairwise_reverse]
      exact pw.imp fun h => by simpa using h
end
end T1
namespace T1
open PySem L2
abbrev Stp := Int × Int × Str × Int × Int
def stV (s : Stp) : List V := [.int s.1, .int s.2.1, .str s.2.2.1, .int s.2.2.2.1, .int s.2.2.2.2]
def stD (s : Stp) : D := .tup [.int s.1, .int s.2.1, .str s.2.2.1, .int s.2.2.2.1, .int s.2.2.2.2]
def stepL (b : Bk) (ds : List LDr) (x : Str) (i : Nat) (m : Str) : Stp × List LDr :=
  if (b.getD (tongueL ds).toNat tg0).1 ≠ Str.ofString "" ∧ (⟨#[x.cps.getD i 0]⟩ : Str) = (b.getD (tongueL ds).toNat tg0).1 then
    (if i + 1 = x.length then (((i : Int), 1, Str.ofString "cut", tongueL ds, (ds.length : Int)), ds) else (((i : Int), 2, Str.ofString "escape", tongueL ds, (ds.length : Int)), ds))
  else if m = Str.ofString "" then (((i : Int), 1, Str.ofString "sign", tongueL ds, (ds.length : Int)), ds)
  else if ds ≠ [] ∧ m = (ds.getD (ds.length - 1) ld0).2.2 then (((i : Int), (m.length : Int), Str.ofString "close", tongueL ds.dropLast, (ds.length : Int) - 1), ds.dropLast)
  else match (b.getD (tongueL ds).toNat tg0).2.filter (fun d => d.1 == m) with
    | d :: _ => (((i : Int), (m.length : Int), Str.ofString "open", tongueL ds, (ds.length : Int)), ds ++ [((i : Int), d.2.1, d.2.2)])
    | [] => (((i : Int), 0, Str.ofString "", 0, 0), ds)
theorem ld_last {z : Addr} {H : Hp} {q : Addr} {ds : List LDr} {vs : List V} (RD : Reps z H vs (ds.map ldD)) (hpos : 0 < ds.length) : ∃ ad, atI vs (-1) = some (.ref ad) ∧ H ad = some (.tup [.int (ds.getD (ds.length - 1) ld0).1, .int (ds.getD (ds.length - 1) ld0).2.1, .str (ds.getD (ds.length - 1) ld0).2.2]) := by
  have hvl : vs.length = ds.length := by have := RD.length; simpa using this
  obtain ⟨ad, ed, hadz, had⟩ := rep_ld (reps_ld (ds := ds) (i := ds.length - 1) RD (by omega))
  refine ⟨ad, ?_, had⟩
  have e1 : ixN vs.length (-1) = some (vs.length - 1) := by
    unfold ixN
    rw [if_neg (by decide), if_pos (by omega)]
    congr 1
    omega
  unfold atI
  rw [e1]
  show vs[vs.length - 1]? = _
  have h1 : vs.length - 1 < vs.length := by omega
  have h2 : vs.getD (vs.length - 1) .non = vs[vs.length - 1] := by simp [h1]
  rw [List.getElem?_eq_getElem h1, ← h2, hvl, ed]
theorem tongue_last {ds : List LDr} (h : 0 < ds.length) : tongueL ds = (ds.getD (ds.length - 1) ld0).2.1 := by
  have hlast : ds.getLast? = some (ds.getD (ds.length - 1) ld0) := by
    rw [List.getLast?_eq_getElem?]
    have : ds.length - 1 < ds.length := by omega
    simp [this]
  unfold tongueL
  rw [hlast]
theorem tongue_nat {b : Bk} {ds : List LDr} (hld : LdOk b ds) (hb : 1 ≤ b.length) : ∃ tN : Nat, tongueL ds = (tN : Int) ∧ tN < b.length := by
  unfold tongueL
  cases g : ds.getLast? with
  | none => exact ⟨0, rfl, by omega⟩
  | some d =>
    have := (hld d (List.mem_of_getLast? g)).1
    exact ⟨d.2.1.toNat, by show d.2.1 = _; omega, by omega⟩
mutual
theorem Rep.butL {z q : Addr} {H H' : Hp} {l : List V} (hq : H q = some (.lst l)) (s : SameX q H H') : ∀ {v : V} {d : D}, Rep z H v d → NoL d → Rep z H' v d
  | _, _, .non, _ => .non
  | _, _, .bl b, _ => .bl b
  | _, _, .int i, _ => .int i
  | _, _, .str x h, _ => .str x h
  | _, _, .tup h hz r, .tup t => .tup (s _ _ (ne_of h hq (by intro q; cases q)) h) hz (Reps.butL hq s r t)
theorem Reps.butL {z q : Addr} {H H' : Hp} {l : List V} (hq : H q = some (.lst l)) (s : SameX q H H') : ∀ {vs : List V} {ds : List D}, Reps z H vs ds → NoLs ds → Reps z H' vs ds
  | _, _, .nil, _ => .nil
  | _, _, .cons h t, .cons h' t' => .cons (Rep.butL hq s h h') (Reps.butL hq s t t')
end
theorem first_pick {α : Type} (ds : List α) (d0 : α) (p : α → Bool) (g : Nat → V) : ∀ n, n ≤ ds.length → ((ds.take n).filter p = [] ∧ flatN (fun i => (if p (ds.getD i d0) then some (g i) else none).toList) n = []) ∨
    ∃ d r j, (ds.take n).filter p = d :: r ∧ j < n ∧ ds.getD j d0 = d ∧ (flatN (fun i => (if p (ds.getD i d0) then some (g i) else none).toList) n)[0]? = some (g j)
  | 0, _ => .inl ⟨by simp, rfl⟩
  | n + 1, h => by
    have hn : n < ds.length := h
    have e : ds.getD n d0 = ds[n] := by simp [hn]
    have et : (ds.take (n + 1)).filter p = (ds.take n).filter p ++ (if p ds[n] then [ds[n]] else []) := by
      rw [List.take_add_one, List.filter_append, List.getElem?_eq_getElem hn]
      cases g2 : p ds[n] <;> simp [g2]
    have ef : flatN (fun i => (if p (ds.getD i d0) then some (g i) else none).toList) (n + 1) = flatN (fun i => (if p (ds.getD i d0) then some (g i) else none).toList) n ++ (if p ds[n] then [g n] else []) := by
      simp only [flatN]
      rw [e]
      cases g2 : p ds[n] <;> rfl
    rcases first_pick ds d0 p g n (by omega) with ⟨h1, h2⟩ | ⟨d, r, j, h1, h2, h3, h4⟩
    · rw [et, ef, h1, h2]
      cases g2 : p ds[n] with
      | false => exact .inl ⟨rfl, rfl⟩
      | true => exact .inr ⟨ds[n], [], n, rfl, by omega, e, rfl⟩
    · refine .inr ⟨d, r ++ (if p ds[n] then [ds[n]] else []), j, by rw [et, h1]; rfl, by omega, h3, ?_⟩
      rw [ef, List.getElem?_append_left]
      · exact h4
      · exact (List.getElem?_eq_some_iff.mp h4).1
theorem Reps.dropLast {z : Addr} {H : Hp} {vs : List V} {ds : List D} (r : Reps z H vs ds) : Reps z H vs.dropLast ds.dropLast := by
  rw [List.dropLast_eq_take, List.dropLast_eq_take, r.length]
  exact r.take _
inductive spStep : List V → Hp → VK → XK → Prop where
  | mk {vs : List V} {H : Hp} {Q : VK} {E : XK} (z v b q ds x m : _) (i : Nat) (c1 : vs = [v, .ref q, .str x, .int i, .str m]) (c2 : Bag z H) (c3 : q ≠ z) (c4 : Rep z H v (bkD b)) (c5 : BkOk b) (c6 : LDs z H q ds) (c7 : LdOk b ds) (c8 : i < x.length) (c9 : x.length ≤ 20000) (c10 : ds.length ≤ 20000) (c11 : (m = Str.ofString "" ∨ m ∈ someL b ds)) (c12 : ∀ p H', SameX q H H' → H p = none → H' p = some (.tup (stV (stepL b ds x i m).1)) → LDs z H' q (stepL b ds x i m).2 → Q (.ref p) H') : spStep vs H Q E
section
variable {P : Program} {w : World} {K : PySem.W.Frag} {mg : Str → Option Value} {base : Heap}
theorem scStepL : FnScope ["book", "doors", "text", "place", "mark", "tongue", "depth", "cut", "around", "door"] ["book", "doors", "text", "place", "mark"] (defScope lStep) := ⟨rfl, rfl, rfl, by decide +kernel, rfl, by decide +kernel, by decide +kernel⟩
theorem ndOM2 : (["one", "mark"] : List Str).Nodup := by decide +kernel
set_option maxHeartbeats 0 in
theorem ok_lstep {f : Addr} {fd : FuncData} (F : Fun K "_law_step" "_law_step" lStep f fd) (T : TxtB mg) : FnOk P w K mg base CX0 1 f fd ["book", "doors", "text", "place", "mark"] spStep := by
  refine F.ok scStepL (fun vs H Q E h => ?_) (fun cdv A outer s H vs Q E hr h => ?_)
  · obtain ⟨z, v, b, q, ds, x, m, i, rfl, _⟩ := h
    rfl
  · obtain ⟨z, v, b, q, ds, x, m, i, rfl, hB, hqz, R0, hok, ⟨vs, hq, RD⟩, hld, hi, hx, hdl, hm, k⟩ := h
    obtain ⟨a, xs, rfl, haz, ha, hxl, R⟩ := rep_book R0
    obtain ⟨hb1, hb6, htok, _⟩ := hok
    have nd := scStepL.nd
    refine ⟨_, pss_cons (ps_set (i := 5) nd rfl (Or.inl rfl) pe_int)
      (pss_cons (ps_if (pt_cmpR (op_ne_nil hr.units0) (pv 1) (pe_lst pa_nil) (nomark _)) (pss_one (ps_set (i := 5) nd rfl (Or.inl rfl) (pe_ix ix_tup (pe_ix ix_list (pv 1) (pe_un un_neg pe_int) (fun _ _ => rfl)) pe_int (fun _ _ => rfl)))) pss_nil)
      (pss_cons (ps_set (i := 6) nd rfl (Or.inl rfl) (pe_callB call_len_seq (by rfl) T.len b_len (pa_cons (pv 1) pa_nil)))
      (pss_cons (ps_if (PW.pt (pw_and (pt_cmpR op_ne (pe_ix ix_tup (pe_ix ix_tup (pv 0) (pv 5) (fun _ _ => rfl)) pe_int (fun _ _ => rfl)) pe_str (nomark _)) (pw_and1 (pt_cmpR op_eq (pe_ix ix_str (pv 2) (pv 3) (fun _ _ => rfl)) (pe_ix ix_tup (pe_ix ix_tup (pv 0) (pv 5) (fun _ _ => rfl)) pe_int (fun _ _ => rfl)) (nomark _)))))
        (pss_cons (ps_set (i := 7) nd rfl (Or.inl rfl) (pe_callTy call_int1 (by rfl) T.int b_int (pa_cons (pe_cmpR op_eq (pe_op op_add (pv 3) pe_int) (pe_callB call_len_str (by rfl) T.len b_len (pa_cons (pv 2) pa_nil)) (nomark _)) pa_nil)))
        (pss_one (ps_ret (pe_tup (pa_cons (pv 3) (pa_B (pe_op op_sub pe_int (pv 7)) (pa_cons (pe_ix ix_list (pe_lst (pa_K pe_str (pa_K pe_str pa_nil))) (pv 7) (fun _ _ => rfl)) (pa_cons (pv 5) (pa_cons (pv 6) pa_nil))))))))) pss_nil)
      (pss_cons (ps_if (pt_cmpR op_eq (pv 4) pe_str (nomark _)) (pss_one (ps_ret (pe_tup (pa_cons (pv 3) (pa_K pe_int (pa_K pe_str (pa_cons (pv 5) (pa_cons (pv 6) pa_nil)))))))) pss_nil)
      (pss_cons (ps_if (PW.pt (pw_and (pt_cmpR (op_ne_nil hr.units0) (pv 1) (pe_lst pa_nil) (nomark _)) (pw_and1 (pt_cmpR op_eq (pv 4) (pe_ix ix_tup (pe_ix ix_list (pv 1) (pe_un un_neg pe_int) (fun _ _ => rfl)) pe_int (fun _ _ => rfl)) (nomark _)))))
        (pss_cons (ps_expr (pe_bm0 PySem.F.plainAttrs_list PySem.F.slot_list_pop PySem.F.type_list_pop mt_pop (pv 1)))
        (pss_cons (ps_set (i := 8) nd rfl (Or.inl rfl) pe_int)
        (pss_cons (ps_if (pt_cmpR (op_ne_nil hr.units0) (pv 1) (pe_lst pa_nil) (nomark _)) (pss_one (ps_set (i := 8) nd rfl (Or.inl rfl) (pe_ix ix_tup (pe_ix ix_list (pv 1) (pe_un un_neg pe_int) (fun _ _ => rfl)) pe_int (fun _ _ => rfl)))) pss_nil)
        (pss_one (ps_ret (pe_tup (pa_cons (pv 3) (pa_cons (pe_callB call_len_str (by rfl) T.len b_len (pa_cons (pv 4) pa_nil)) (pa_K pe_str (pa_cons (pv 8) (pa_B (pe_op op_sub (pv 6) pe_int) pa_nil)))))))))))  pss_nil)
      (pss_cons (ps_set (i := 9) nd rfl (Or.inl rfl) (pe_ix ix_list (pe_comp1 (N' := ["one", "mark"]) (js := [none, some 4]) rfl rfl (blk_of (defScope lStep) (by decide +kernel)) ⟨rfl, Or.inr (Or.inl rfl), rfl, trivial⟩ (pi_tup (pe_ix ix_tup (pe_ix ix_tup (pv 0) (pv 5) (fun _ _ => rfl)) pe_int (fun _ _ => rfl)))
          (fun cl s H fp => pg_name (i := 0) ndOM2 rfl (Or.inl rfl)) (fun cl s H fp => pts_one (pt_cmpR op_eq (pe_ix ix_tupB (pv 0) pe_int (fun _ _ => rfl)) (pv 1) (nomark _))) (fun cl s H fp => pv 0)) pe_int (fun _ _ => rfl)))
      (pss_cons (ps_expr (pe_bm PySem.F.plainAttrs_list PySem.F.slot_list_append PySem.F.type_list_append mt_append (pv 1) (pa_T (pe_tup (pa_cons (pv 3) (pa_cons (pe_ix ix_tup (pv 9) pe_int (fun _ _ => rfl)) (pa_cons (pe_ix ix_tup (pv 9) pe_int (fun _ _ => rfl)) pa_nil)))) pa_nil)))
      (pss_one (ps_ret (pe_tup (pa_cons (pv 3) (pa_cons (pe_callB call_len_str (by rfl) T.len b_len (pa_cons (pv 4) pa_nil)) (pa_K pe_str (pa_cons (pv 5) (pa_cons (pv 6) pa_nil))))))))))))))), ?_⟩
    dsimp only [cxOf, Cx.nox, Cx.wish]
    have big := big1000
    have big2 : (100000 : Nat) ≤ sizeLine := by rw [sizeLine_eq]; decide
    have hvl : vs.length = ds.length := by have := RD.length; simpa using this
    obtain ⟨tN, htN, htl⟩ := tongue_nat hld hb1
    refine ⟨_, rfl, Nat.zero_le _, fun l nl => ?_⟩
    have s1 := Same.new (o := .lst []) nl
    refine ⟨q, l, vs, rfl, rfl, s1 _ _ hq, upd_same, _, rfl, ?_⟩
    generalize upd H l (.lst []) = H1 at s1
    have htoN : (tongueL ds).toNat = tN := by rw [htN]; rfl
    have tok := htok _ (getD_mem tg0 htl)
    obtain ⟨c, d, ys, ec, hcz, hdz, hc, hd, hyl, Ry⟩ := rep_tongue ((reps_tongue (b := b) (i := tN) R htl).mono s1.x)
    have exv : xs[tN]? = some (.ref c) := by
      have h1 : tN < xs.length := by omega
      have h2 : xs.getD tN .non = xs[tN] := by simp [h1]
      rw [List.getElem?_eq_getElem h1, ← h2, ec]
    have hyl : ys.length = (b.getD tN tg0).2.length := hyl
    have hms : m = Str.ofString "" ∨ m ∈ opensOf (b.getD tN tg0).2 ∨ m ∈ (lastL ds).map (·.2.2) := by
      rcases hm with h | h
      · exact .inl h
      · unfold someL at h
        rw [htoN] at h
        exact .inr (List.mem_append.mp h)
    unfold stepL at k
    rw [htoN, htN] at k
    generalize hT : b.getD tN tg0 = tt at *
    have few := tok.2.1
    have hxi : x.cps.toList[i]? = some (x.cps.getD i 0) := by
      have : i < x.cps.size := hi
      simp [Array.getD, this]
    have hm4 : m.length ≤ 1000 := by
      rcases hms with rfl | h | h
      · decide +kernel
      · obtain ⟨dd, hdd, rfl⟩ := List.mem_map.mp h
        have := (markS_len (tok.2.2 dd hdd).1).1
        omega
      · obtain ⟨dd, hdd, rfl⟩ := List.mem_map.mp h
        have := (hld dd (List.mem_of_mem_drop hdd)).2.2
        omega
    refine ite_join (G := ?G) (fun hne g => ?g1) (fun hne g => ?g2) ?g3
    case g1 =>
      have hpos : 0 < ds.length := by
        cases vs with
        | nil => simp at hne
        | cons _ _ => simp at hvl; omega
      obtain ⟨ad, hat, had⟩ := ld_last (q := q) (RD.mono s1.x) hpos
      refine ⟨_, rfl, 1, rfl, q, vs, -1, _, rfl, rfl, SqL.of (s1 _ _ hq), hat, ad, _, 1, _, rfl, rfl, SqT.of had, atI_nat (j := 1) rfl, ?_⟩
      have htd := tongue_last hpos
      show (tSeq _ _) _ [some (.ref a), some (.ref q), some (.str x), some (.int i), some (.str m), some (.int (ds.getD (ds.length - 1) ld0).2.1), none, none, none, none] _
      rw [← htd, htN]
      exact g.out
    case g2 =>
      have hz : ds.length = 0 := by
        cases vs with
        | nil => simp at hvl; omega
        | cons _ _ => simp at hne
      have htd : (some (V.int 0) : Option V) = some (V.int (tN : Int)) := by
        rw [← htN]
        unfold tongueL
        have : ds = [] := List.eq_nil_of_length_eq_zero hz
        rw [this]
        rfl
      show (tSeq _ _) _ [some (.ref a), some (.ref q), some (.str x), some (.int i), some (.str m), some (.int 0), none, none, none, none] _
      rw [htd]
      exact g.out
    case g3 =>
      refine ⟨_, rfl, q, vs, rfl, .inl (SqL.of (s1 _ _ hq)), ?_⟩
      refine ⟨_, rfl, _, rfl, a, xs, tN, _, rfl, rfl, SqT.of (s1 _ _ ha), atI_nat exv, c, _, 0, _, rfl, rfl, SqT.of hc, atI_nat (j := 0) rfl, rfl, _, rfl, ?_⟩
      by_cases hesc : tt.1 ≠ Str.ofString "" ∧ (⟨#[x.cps.getD i 0]⟩ : Str) = tt.1
      · rw [if_pos hesc] at k
        have e1 : (!decide (V.str tt.1 = V.str (Str.ofString ""))) = true := by
          have : ¬ (V.str tt.1 = V.str (Str.ofString "")) := fun q => hesc.1 (by injection q)
          rw [decide_eq_false this]
          rfl
        rw [e1]
        refine iteT ⟨_, rfl, _, rfl, x, i, _, rfl, rfl, by omega, atI_nat hxi, _, rfl, _, rfl, a, xs, tN, _, rfl, rfl, SqT.of (s1 _ _ ha), atI_nat exv, c, _, 0, _, rfl, rfl, SqT.of hc, atI_nat (j := 0) rfl, rfl, _, rfl, ?_⟩
        rw [hesc.2, decide_eq_true rfl]
        refine iteT ⟨_, rfl, (i : Int), 1, rfl, rfl, _, rfl, x, rfl, by omega, rfl, .inr ⟨_, rfl, ?_⟩⟩
        by_cases hcut : i + 1 = x.length
        · rw [if_pos hcut] at k
          have e2 : decide (V.int ((i : Int) + 1) = V.int (x.length : Int)) = true := by
            have : ((i : Int) + 1) = (x.length : Int) := by omega
            rw [this]; simp
          rw [e2]
          refine ⟨_, rfl, _, rfl, 2, 1, rfl, rfl, by show (2 : Nat) ≤ _; omega, fun l2 nl2 => ⟨_, rfl, l2, _, 1, _, rfl, rfl, SqL.of upd_same, atI_nat (j := 1) rfl, _, rfl, _, rfl, by show (5 : Nat) ≤ _; omega, fun p np => ?_⟩⟩
          have s2 := (Same.new (o := .lst [.str (Str.ofString "escape"), .str (Str.ofString "cut")]) nl2)
          have s3 := s2.trans (Same.new (o := .tup [.int i, .int (2 - 1), .str (Str.ofString "cut"), .int tN, .int vs.length]) np)
          refine k p _ (s1.trans s3).x ((s1.trans s2).free np) ?_ ⟨vs, (s1.trans s3) _ _ hq, RD.mono (s1.trans s3).x⟩
          rw [upd_same, hvl]
          rfl
        · rw [if_neg hcut] at k
          have e2 : decide (V.int ((i : Int) + 1) = V.int (x.length : Int)) = false := by
            have : ¬ (V.int ((i : Int) + 1) = V.int (x.length : Int)) := fun q => hcut (by injection q with q; omega)
            exact decide_eq_false this
          rw [e2]
          refine ⟨_, rfl, _, rfl, 2, 0, rfl, rfl, by show (2 : Nat) ≤ _; omega, fun l2 nl2 => ⟨_, rfl, l2, _, 0, _, rfl, rfl, SqL.of upd_same, atI_nat (j := 0) rfl, _, rfl, _, rfl, by show (5 : Nat) ≤ _; omega, fun p np => ?_⟩⟩
          have s2 := (Same.new (o := .lst [.str (Str.ofString "escape"), .str (Str.ofString "cut")]) nl2)
          have s3 := s2.trans (Same.new (o := .tup [.int i, .int (2 - 0), .str (Str.ofString "escape"), .int tN, .int vs.length]) np)
          refine k p _ (s1.trans s3).x ((s1.trans s2).free np) ?_ ⟨vs, (s1.trans s3) _ _ hq, RD.mono (s1.trans s3).x⟩
          rw [upd_same, hvl]
          rfl
      · rw [if_neg hesc] at k
        refine ite_both (fun he g => ?_) ?_
        · refine ⟨_, rfl, _, rfl, x, i, _, rfl, rfl, by omega, atI_nat hxi, _, rfl, _, rfl, a, xs, tN, _, rfl, rfl, SqT.of (s1 _ _ ha), atI_nat exv, c, _, 0, _, rfl, rfl, SqT.of hc, atI_nat (j := 0) rfl, rfl, _, rfl, ?_⟩
          have e3 : decide (V.str (⟨#[x.cps.getD i 0]⟩ : Str) = V.str tt.1) = false := by
            have : ¬ (V.str (⟨#[x.cps.getD i 0]⟩ : Str) = V.str tt.1) := fun q => hesc ⟨fun q2 => by rw [q2] at he; simp at he, by injection q⟩
            exact decide_eq_false this
          rw [e3]
          exact g.out
        · refine iteF ⟨_, rfl, rfl, _, rfl, ?_⟩
          by_cases hm0 : m = Str.ofString ""
          · rw [if_pos hm0] at k
            rw [hm0, decide_eq_true rfl]
            refine iteT ⟨_, rfl, _, rfl, _, rfl, by show (5 : Nat) ≤ _; omega, fun p np => ?_⟩
            have s3 := Same.new (o := .tup [.int i, .int 1, .str (Str.ofString "sign"), .int tN, .int vs.length]) np
            refine k p _ (s1.trans s3).x (s1.free np) ?_ ⟨vs, (s1.trans s3) _ _ hq, RD.mono (s1.trans s3).x⟩
            rw [upd_same, hvl]
            rfl
          rw [if_neg hm0] at k
          have e4 : decide (V.str m = V.str (Str.ofString "")) = false := by
            have : ¬ (V.str m = V.str (Str.ofString "")) := fun q => hm0 (by injection q)
            exact decide_eq_false this
          rw [e4]
          refine iteF ⟨_, rfl, Nat.zero_le _, fun l2 nl2 => ?_⟩
          have s2 := s1.trans (Same.new (o := .lst []) nl2)
          have t2 := Same.new (o := .lst []) nl2
          refine ⟨q, l2, vs, rfl, rfl, s2 _ _ hq, upd_same, _, rfl, ?_⟩
          have hH2 : ∀ b' o, H1 b' = some o → upd H1 l2 (.lst []) b' = some o := fun b' o e => t2 b' o e
          generalize upd H1 l2 (.lst []) = H2 at s2 t2 hH2
          by_cases hcl : ds ≠ [] ∧ m = (ds.getD (ds.length - 1) ld0).2.2
          · rw [if_pos hcl] at k
            have hpos : 0 < ds.length := List.length_pos_iff.mpr hcl.1
            have hve : (!vs.isEmpty) = true := by
              cases vs with
              | nil => simp at hvl; omega
              | cons _ _ => rfl
            rw [hve]
            obtain ⟨ad, hat, had⟩ := ld_last (q := q) (RD.mono s2.x) hpos
            refine iteT ⟨_, rfl, _, rfl, 1, rfl, q, vs, -1, _, rfl, rfl, SqL.of (s2 _ _ hq), hat, ad, _, 2, _, rfl, rfl, SqT.of had, atI_nat (j := 2) rfl, rfl, _, rfl, ?_⟩
            rw [← hcl.2, decide_eq_true rfl]
            refine iteT ⟨_, rfl, .inl ⟨rfl, _, SqL.of (s2 _ _ hq)⟩, q, vs, _, rfl, rfl, s2 _ _ hq, get_of (by omega), ?_⟩
            have hq3 : upd H2 q (.lst vs.dropLast) q = some (.lst vs.dropLast) := upd_same
            have RD3 : Reps z (upd H2 q (.lst vs.dropLast)) vs.dropLast (ds.dropLast.map ldD) := by
              rw [List.map_dropLast]
              exact Reps.updL (s2 _ _ hq) (RD.mono s2.x).dropLast (by rw [← List.map_dropLast]; exact noL_lds _)
            have sx3 : SameX q H (upd H2 q (.lst vs.dropLast)) := s2.x.upd
            generalize upd H2 q (.lst vs.dropLast) = H3 at hq3 RD3 sx3
            refine ⟨_, rfl, Nat.zero_le _, fun l3 nl3 => ?_⟩
            have t4 := Same.new (o := .lst []) nl3
            refine ⟨q, l3, vs.dropLast, rfl, rfl, t4 _ _ hq3, upd_same, _, rfl, ?_⟩
            have hq4 := t4 _ _ hq3
            have RD4 := RD3.mono t4.x (z := z)
            have sx4 : SameX q H (upd H3 l3 (.lst [])) := sx3.trans t4.x
            generalize upd H3 l3 (.lst []) = H4 at hq4 RD4 sx4
            obtain ⟨aN, haN, _⟩ := tongue_nat (b := b) (ds := ds.dropLast) (fun d hd => hld d (List.dropLast_subset _ hd)) hb1
            rw [haN] at k
            have hvl2 : vs.dropLast.length = ds.dropLast.length := by simp; omega
            have kpos2 : (!vs.dropLast.isEmpty) = true → 0 < ds.dropLast.length := fun hn2 => by
              rw [← hvl2]
              cases hv2 : vs.dropLast with
              | nil => rw [hv2] at hn2; simp at hn2
              | cons _ _ => simp
            have kz2 : ¬ (!vs.dropLast.isEmpty) = true → ds.dropLast.length = 0 := fun hn2 => by
              rw [← hvl2]
              cases hv2 : vs.dropLast with
              | nil => rfl
              | cons _ _ => rw [hv2] at hn2; simp at hn2
            refine ite_join (G := ?G2) (fun hn2 g => ?h1) (fun hn2 g => ?h2) ?h3
            case h1 =>
              have hpos2 := kpos2 hn2
              obtain ⟨ad2, hat2, had2⟩ := ld_last (q := q) RD4 hpos2
              refine ⟨_, rfl, 1, rfl, q, _, -1, _, rfl, rfl, SqL.of hq4, hat2, ad2, _, 1, _, rfl, rfl, SqT.of had2, atI_nat (j := 1) rfl, ?_⟩
              have htd2 := tongue_last hpos2
              rw [← htd2, haN]
              exact g.out
            case h2 =>
              have hz2 := kz2 hn2
              have htd2 : (some (V.int 0) : Option V) = some (V.int (aN : Int)) := by
                rw [← haN]
                unfold tongueL
                have : ds.dropLast = [] := List.eq_nil_of_length_eq_zero hz2
                rw [this]
                rfl
              rw [htd2]
              exact g.out
            case h3 =>
              refine ⟨_, rfl, _, rfl, m, rfl, by omega, _, rfl, _, rfl, _, _, rfl, rfl, by show (5 : Nat) ≤ _; omega, fun p np => ?_⟩
              have hpn : H p = none := by
                cases e : H p with
                | none => rfl
                | some o =>
                  have hpq : p ≠ q := (ne_of_none hq4 np).symm
                  rw [sx4 p o hpq e] at np
                  cases np
              have t5 := Same.new (o := .tup [.int i, .int m.length, .str (Str.ofString "close"), .int aN, .int ((vs.length : Int) - 1)]) np
              refine k p _ (sx4.trans t5.x) hpn ?_ ⟨_, t5 _ _ hq4, RD4.mono t5.x⟩
              rw [upd_same, hvl]
              rfl
          · rw [if_neg hcl] at k
            refine ite_both (fun hv g => ?_) ?_
            · have hpos : 0 < ds.length := by
                cases vs with
                | nil => simp at hv
                | cons _ _ => simp at hvl; omega
              obtain ⟨ad, hat, had⟩ := ld_last (q := q) (RD.mono s2.x) hpos
              refine ⟨_, rfl, _, rfl, 1, rfl, q, vs, -1, _, rfl, rfl, SqL.of (s2 _ _ hq), hat, ad, _, 2, _, rfl, rfl, SqT.of had, atI_nat (j := 2) rfl, rfl, _, rfl, ?_⟩
              have e5 : decide (V.str m = V.str (ds.getD (ds.length - 1) ld0).2.2) = false := by
                have : ¬ (V.str m = V.str (ds.getD (ds.length - 1) ld0).2.2) := fun q => hcl ⟨List.length_pos_iff.mp hpos, by injection q⟩
                exact decide_eq_false this
              rw [e5]
              exact g.out
            · have hmo : m ∈ opensOf tt.2 := by
                rcases hms with h | h | h
                · exact absurd h hm0
                · exact h
                · exfalso
                  obtain ⟨dd, hdd, e6⟩ := List.mem_map.mp h
                  unfold lastL at hdd
                  have hpos : 0 < ds.length := by
                    cases ds with
                    | nil => simp at hdd
                    | cons _ _ => simp
                  have : ds.drop (ds.length - 1) = [ds.getD (ds.length - 1) ld0] := by
                    have hlt : ds.length - 1 < ds.length := by omega
                    rw [List.drop_eq_getElem_cons hlt]
                    have : ds.length - 1 + 1 = ds.length := by omega
                    rw [this, List.drop_length]
                    simp [hlt]
                  rw [this] at hdd
                  have : dd = ds.getD (ds.length - 1) ld0 := by simpa using hdd
                  rw [this] at e6
                  exact hcl ⟨List.length_pos_iff.mp hpos, e6.symm⟩
              refine iteF ?_
              refine ⟨_, rfl, _, rfl, a, xs, tN, _, rfl, rfl, SqT.of (s2 _ _ ha), atI_nat exv, c, _, 1, _, rfl, rfl, SqT.of (t2 _ _ hc), atI_nat (j := 1) rfl, d, rfl, ⟨_, SqT.of (t2 _ _ hd)⟩, fun pC npC => ?_⟩
              have hdp : d ≠ pC := ne_of_none (t2 _ _ hd) npC
              refine loop_new (fun j => if (tt.2.getD j dr0).1 == m then some (ys.getD j .non) else none) (fun σ => ∃ v, σ = [v, some (.str m)]) ⟨none, rfl⟩ npC (by omega) (itok_tup (xs := ys) (by rw [upd_ne hdp]; exact t2 _ _ hd) hdp) (fun j σ H5 C hj ⟨v, hv⟩ hS5 hC => ?_) (fun σ H5 s5 hH5 => ?_)
              · subst hv
                obtain ⟨q3, e3, hq3z, hq3⟩ := rep_door ((reps_door (ds := tt.2) (i := j) Ry (by omega)).mono (t2.trans hS5).x)
                have hC' := hC [some (.ref q3), some (.str m)] H5 ⟨_, rfl⟩ (Same.refl _)
                rw [e3]
                refine ⟨_, rfl, q3, _, 0, _, rfl, rfl, SqT.of hq3, atI_nat (j := 0) rfl, _, rfl, rfl, _, rfl, ?_⟩
                rw [dec_str]
                show if ((tt.2.getD j dr0).1 == m) = true then _ else _
                cases g : (tt.2.getD j dr0).1 == m with
                | true =>
                  rw [g, if_pos rfl, e3] at hC'
                  exact iteT ⟨_, rfl, hC'⟩
                | false =>
                  rw [g, if_neg (by simp)] at hC'
                  exact iteF hC'
              rw [hyl] at hH5
              rcases first_pick tt.2 dr0 (fun d => d.1 == m) (fun j => ys.getD j .non) tt.2.length (Nat.le_refl _) with ⟨h1, h2⟩ | ⟨d', r', j0, h1, h2, h3, h4⟩
              · exfalso
                rw [List.take_length] at h1
                obtain ⟨dd, hdd, e6⟩ := List.mem_map.mp hmo
                have : dd ∈ tt.2.filter (fun d => d.1 == m) := List.mem_filter.mpr ⟨hdd, by simpa using e6⟩
                rw [h1] at this
                cases this
              rw [List.take_length] at h1
              rw [h1] at k
              dsimp only at k
              have S5 := s2.trans s5
              have T5 := t2.trans s5
              obtain ⟨q0, e0, hq0z, hq0⟩ := rep_door ((reps_door (ds := tt.2) (i := j0) Ry h2).mono T5.x)
              have h3 : tt.2.getD j0 dr0 = d' := h3
              have hq0 : H5 q0 = some (.tup [.str (tt.2.getD j0 dr0).1, .int (tt.2.getD j0 dr0).2.1, .str (tt.2.getD j0 dr0).2.2]) := hq0
              rw [h3] at hq0
              have h4 : (flatN (fun i => (if (tt.2.getD i dr0).1 == m then some (ys.getD i .non) else none).toList) tt.2.length)[0]? = some (ys.getD j0 .non) := h4
              rw [e0] at h4
              refine ⟨pC, _, 0, _, rfl, rfl, SqL.of hH5, atI_nat (j := 0) h4, ?_⟩
              have hq5 := S5 _ _ hq
              refine ⟨_, rfl, .inl ⟨rfl, _, SqL.of hq5⟩, _, rfl, _, rfl, q0, _, 1, _, rfl, rfl, SqT.of hq0, atI_nat (j := 1) rfl, _, rfl, q0, _, 2, _, rfl, rfl, SqT.of hq0, atI_nat (j := 2) rfl, by show (3 : Nat) ≤ _; omega, fun pt npt => ?_⟩
              have t6 := Same.new (o := .tup [.int i, .int d'.2.1, .str d'.2.2]) npt
              have hpt : upd H5 pt (.tup [.int i, .int d'.2.1, .str d'.2.2]) pt = some (.tup [.int i, .int d'.2.1, .str d'.2.2]) := upd_same
              have hq6 := t6 _ _ hq5
              have S6 := S5.trans t6
              have hptz : pt ≠ z := (hB.same S5).ne npt
              generalize upd H5 pt (.tup [.int i, .int d'.2.1, .str d'.2.2]) = H6 at hpt hq6 S6
              refine ⟨q, vs, _, rfl, rfl, hq6, by omega, ?_⟩
              have hd4 : d'.2.2.length ≤ 1000 := by
                have hmem : d' ∈ tt.2 := (List.mem_filter.mp (by rw [h1]; exact List.mem_cons_self)).1
                have := (markS_len (tok.2.2 d' hmem).2.2).1
                omega
              have RD7 : Reps z (upd H6 q (.lst (vs ++ [.ref pt]))) (vs ++ [.ref pt]) ((ds ++ [((i : Int), d'.2.1, d'.2.2)]).map ldD) := by
                refine Reps.updL hq6 ?_ (noL_lds _)
                rw [List.map_append]
                exact (RD.mono S6.x).append (.cons (.tup hpt hptz (.cons (.int _) (.cons (.int _) (.cons (.str _ hd4) .nil)))) .nil)
              have hq7 : upd H6 q (.lst (vs ++ [.ref pt])) q = some (.lst (vs ++ [.ref pt])) := upd_same
              have sx7 : SameX q H (upd H6 q (.lst (vs ++ [.ref pt]))) := S6.x.upd
              generalize upd H6 q (.lst (vs ++ [.ref pt])) = H7 at RD7 hq7 sx7
              refine ⟨_, rfl, _, rfl, m, rfl, by omega, _, rfl, _, rfl, by show (5 : Nat) ≤ _; omega, fun p np => ?_⟩
              have hpn : H p = none := by
                cases e : H p with
                | none => rfl
                | some o =>
                  have hpq : p ≠ q := (ne_of_none hq7 np).symm
                  rw [sx7 p o hpq e] at np
                  cases np
              have t8 := Same.new (o := .tup [.int i, .int m.length, .str (Str.ofString "open"), .int tN, .int vs.length]) np
              refine k p _ (sx7.trans t8.x) hpn ?_ ⟨_, t8 _ _ hq7, RD7.mono t8.x⟩
              rw [upd_same, hvl]
              rfl
end
end T1
namespace T1
open PySem L2
abbrev eS : Str := ⟨#[]⟩
def bestOf (l : List Str) : Str := l.foldl (fun acc m => if acc.length < m.length then m else acc) eS
theorem fit_eq {x : Str} {i : Nat} {m m' : Str} (h : fitAt x i m = true) (h' : fitAt x i m' = true) (hl : m.length = m'.length) : m = m' := by
  have a := of_decide_eq_true h
  have c := of_decide_eq_true h'
  rw [hl] at a
  have : V.str m = V.str m' := a.symm.trans c
  injection this
def bestL (b : Bk) (ds : List LDr) (x : Str) (i : Nat) : Str := bestOf (fitL b ds x i)
def LdBk (b : Bk) (ds : List LDr) : Prop := ∀ d ∈ ds, ∃ t ∈ b, ∃ dr ∈ t.2, d.2.1 = dr.2.1 ∧ d.2.2 = dr.2.2
theorem LdBk.ok {b : Bk} {ds : List LDr} (h : LdBk b ds) (hb : ∀ t ∈ b, TgOk b.length t) : LdOk b ds := fun d hd => by
  obtain ⟨t, ht, dr, hdr, e1, e2⟩ := h d hd
  obtain ⟨g1, g2, g3⟩ := (hb t ht).2.2 dr hdr
  have g := markS_len g3
  rw [e1, e2]
  exact ⟨g2, g.2, g.1⟩
theorem fitL_sm {b : Bk} {ds : List LDr} {x : Str} {i : Nat} (hb : ∀ t ∈ b, TgOk b.length t) (hd : LdOk b ds) : ∀ m ∈ someL b ds, Sm m := fun m hm => by
  unfold someL at hm
  rcases List.mem_append.mp hm with hm | hm
  · obtain ⟨dd, hdd, rfl⟩ := List.mem_map.mp hm
    by_cases hl : (tongueL ds).toNat < b.length
    · have g := markS_len ((hb _ (getD_mem tg0 hl)).2.2 dd hdd).1
      exact ⟨g.2, g.1⟩
    · have e : b.getD (tongueL ds).toNat tg0 = tg0 := by simp [hl]
      rw [e] at hdd
      cases hdd
  · obtain ⟨dd, hdd, rfl⟩ := List.mem_map.mp hm
    exact (hd dd (List.mem_of_mem_drop hdd)).2
theorem last_close {ds : List LDr} {m : Str} (h : m ∈ (lastL ds).map (·.2.2)) : ds ≠ [] ∧ m = (ds.getD (ds.length - 1) ld0).2.2 := by
  obtain ⟨dd, hdd, e6⟩ := List.mem_map.mp h
  unfold lastL at hdd
  have hpos : 0 < ds.length := by
    cases ds with
    | nil => simp at hdd
    | cons _ _ => simp
  have : ds.drop (ds.length - 1) = [ds.getD (ds.length - 1) ld0] := by
    have hlt : ds.length - 1 < ds.length := by omega
    rw [List.drop_eq_getElem_cons hlt]
    have : ds.length - 1 + 1 = ds.length := by omega
    rw [this, List.drop_length]
    simp [hlt]
  rw [this] at hdd
  have : dd = ds.getD (ds.length - 1) ld0 := by simpa using hdd
  rw [this] at e6
  exact ⟨List.length_pos_iff.mp hpos, e6.symm⟩
theorem fit_len {x m : Str} {i : Nat} (h : fitAt x i m = true) (hi : i ≤ x.length) : i + m.length ≤ x.length := by
  have a := of_decide_eq_true h
  have a : cutS x (some (i : Int)) (some ((i : Int) + m.length)) = m := by injection a
  have hl : (cutS x (some (i : Int)) (some ((i : Int) + m.length))).length = m.length := by rw [a]
  have e : ((i : Int) + (m.length : Int)) = ((i + m.length : Nat) : Int) := by omega
  rw [e] at hl
  unfold cutS at hl
  have hl : (List.toArray ((x.cps.toList.drop (HT.sIx x.length 0 (some (i : Int)))).take (HT.sIx x.length x.length (some ((i + m.length : Nat) : Int)) - HT.sIx x.length 0 (some (i : Int))))).size = m.length := hl
  rw [List.size_toArray, List.length_take, List.length_drop, HT.sIx_nat, HT.sIx_nat] at hl
  have : x.cps.toList.length = x.length := by simp; rfl
  omega
end T1
namespace T1
open PySem L2
theorem noL_sts : ∀ ss : List Stp, NoLs (ss.map stD)
  | [] => .nil
  | d :: r => .cons (.tup (.cons (.int _) (.cons (.int _) (.cons (.str _) (.cons (.int _) (.cons (.int _) .nil)))))) (noL_sts r)
section
variable {P : Program} {w : World} {K : PySem.W.Frag} {mg : Str → Option Value} {base : Heap}
end
end T1
namespace T1
open PySem L2
def pdD (d : LDr) : D := .tup [.int d.2.1, .str d.2.2]
theorem noL_pds : ∀ ds : List LDr, NoLs (ds.map pdD)
  | [] => .nil
  | d :: r => .cons (.tup (.cons (.int _) (.cons (.str _) .nil))) (noL_pds r)
def PDs (z : Addr) (H : Hp) (q : Addr) (ds : List LDr) : Prop := ∃ vs, H q = some (.lst vs) ∧ Reps z H vs (ds.map pdD)
theorem PDs.same {z : Addr} {H H' : Hp} {q : Addr} {ds : List LDr} (h : PDs z H q ds) (s : Same H H') : PDs z H' q ds := let ⟨vs, a, r⟩ := h; ⟨vs, s _ _ a, r.mono s.x⟩
theorem rep_pd {z : Addr} {H : Hp} {v : V} {d : LDr} (r : Rep z H v (pdD d)) : ∃ a, v = .ref a ∧ a ≠ z ∧ H a = some (.tup [.int d.2.1, .str d.2.2]) := by
  cases r with
  | tup h hz r =>
    cases r with
    | cons r1 r =>
      cases r with
      | cons r2 r =>
        cases r
        cases r1
        cases r2
        exact ⟨_, rfl, hz, h⟩
theorem reps_pd {z : Addr} {H : Hp} {xs : List V} {ds : List LDr} {i : Nat} (r : Reps z H xs (ds.map pdD)) (hi : i < ds.length) : Rep z H (xs.getD i .non) (pdD (ds.getD i ld0)) := by
  have := r.get (i := i) (by simpa using hi)
  simpa [hi] using this
theorem pd_last {z : Addr} {H : Hp} {ds : List LDr} {vs : List V} (RD : Reps z H vs (ds.map pdD)) (hpos : 0 < ds.length) : ∃ ad, atI vs (-1) = some (.ref ad) ∧ H ad = some (.tup [.int (ds.getD (ds.length - 1) ld0).2.1, .str (ds.getD (ds.length - 1) ld0).2.2]) := by
  have hvl : vs.length = ds.length := by have := RD.length; simpa using this
  obtain ⟨ad, ed, hadz, had⟩ := rep_pd (reps_pd (ds := ds) (i := ds.length - 1) RD (by omega))
  refine ⟨ad, ?_, had⟩
  have e1 : ixN vs.length (-1) = some (vs.length - 1) := by
    unfold ixN
    rw [if_neg (by decide), if_pos (by omega)]
    congr 1
    omega
  unfold atI
  rw [e1]
  show vs[vs.length - 1]? = _
  have h1 : vs.length - 1 < vs.length := by omega
  have h2 : vs.getD (vs.length - 1) .non = vs[vs.length - 1] := by simp [h1]
  rw [List.getElem?_eq_getElem h1, ← h2, hvl, ed]
inductive spWithin : List V → Hp → VK → XK → Prop where
  | mk {vs : List V} {H : Hp} {Q : VK} {E : XK} (z q ds : _) (c1 : vs = [.ref q]) (c2 : PDs z H q ds) (c3 : Q (.int (tongueL ds)) H) : spWithin vs H Q E
section
variable {P : Program} {w : World} {K : PySem.W.Frag} {mg : Str → Option Value} {base : Heap}
theorem scWithin : FnScope ["doors", "inner", "close"] ["doors"] (defScope sWithin) := ⟨rfl, rfl, rfl, by decide +kernel, rfl, by decide +kernel, by decide +kernel⟩
set_option maxHeartbeats 0 in
theorem ok_within {f : Addr} {fd : FuncData} (F : Fun K "tongue_within" "tongue_within" sWithin f fd) : FnOk P w K mg base CX0 1 f fd ["doors"] spWithin := by
  refine F.ok scWithin (fun vs H Q E h => ?_) (fun cdv A outer s H vs Q E hr h => ?_)
  · obtain ⟨z, q, ds, rfl, _⟩ := h
    rfl
  · obtain ⟨z, q, ds, rfl, ⟨vs, hq, RD⟩, k⟩ := h
    have nd := scWithin.nd
    have hvl : vs.length = ds.length := by have := RD.length; simpa using this
    refine ⟨_, pss_cons (ps_if (pt_not (pt_truth (pv 0) (fun _ => rfl))) (pss_one (ps_ret pe_int)) pss_nil)
      (pss_cons (ps_asg (pe_ix ix_list (pv 0) (pe_un un_neg pe_int) (fun _ _ => rfl)) (pg_tup rfl (pgs_cons (pg_name (i := 1) nd rfl (Or.inl rfl)) (pgs_cons (pg_name (i := 2) nd rfl (Or.inl rfl)) pgs_nil))))
      (pss_one (ps_ret (pv 1)))), ?_⟩
    dsimp only [cxOf, Cx.nox, Cx.wish]
    refine ⟨_, rfl, _, .inl ⟨vs, SqL.of hq, rfl⟩, ?_⟩
    by_cases hpos : 0 < ds.length
    · have hve : (!vs.isEmpty) = true := by
        cases vs with
        | nil => simp at hvl; omega
        | cons _ _ => rfl
      rw [hve]
      obtain ⟨ad, hat, had⟩ := pd_last RD hpos
      refine iteF ?_
      refine ⟨_, rfl, 1, rfl, q, vs, -1, _, rfl, rfl, SqL.of hq, hat, ad, _, rfl, SqT.of had, rfl, _, _, rfl, _, _, rfl, rfl, _, rfl, ?_⟩
      rw [tongue_last hpos] at k
      exact k
    · have hve : (!vs.isEmpty) = false := by
        cases vs with
        | nil => rfl
        | cons _ _ => simp at hvl; omega
      rw [hve]
      refine iteT ?_
      have : ds = [] := List.eq_nil_of_length_eq_zero (by omega)
      subst this
      exact k
end
end T1
namespace T1
open PySem L2
abbrev Mk := Str × Option Dr
def mkOD : Option Dr → D
  | none => .non
  | some d => drD d
def mkD (m : Mk) : D := .tup [.str m.1, mkOD m.2]
def possL (b : Bk) (ds : List LDr) : List Mk := (lastL ds).map (fun d => (d.2.2, none)) ++ (b.getD (tongueL ds).toNat tg0).2.map fun d => (d.1, some d)
theorem noL_dr (d : Dr) : NoL (drD d) := .tup (.cons (.str _) (.cons (.int _) (.cons (.str _) .nil)))
theorem noL_mk (m : Mk) : NoL (mkD m) := by
  obtain ⟨x, o⟩ := m
  cases o with
  | none => exact .tup (.cons (.str _) (.cons .non .nil))
  | some d => exact .tup (.cons (.str _) (.cons (noL_dr d) .nil))
theorem noL_mks : ∀ ms : List Mk, NoLs (ms.map mkD)
  | [] => .nil
  | d :: r => .cons (noL_mk d) (noL_mks r)
inductive spPoss : List V → Hp → VK → XK → Prop where
  | mk {vs : List V} {H : Hp} {Q : VK} {E : XK} (z v b q ds : _) (c1 : vs = [v, .ref q]) (c2 : Bag z H) (c3 : Rep z H v (bkD b)) (c4 : BkOk b) (c5 : PDs z H q ds) (c6 : LdOk b ds) (c7 : ∀ p ws H', Same H H' → H p = none → H' p = some (.lst ws) → Reps z H' ws ((possL b ds).map mkD) → Q (.ref p) H') : spPoss vs H Q E
theorem lastL_pos {ds : List LDr} (h : 0 < ds.length) : lastL ds = [ds.getD (ds.length - 1) ld0] := by
  have hlt : ds.length - 1 < ds.length := by omega
  unfold lastL
  rw [List.drop_eq_getElem_cons hlt]
  have : ds.length - 1 + 1 = ds.length := by omega
  rw [this, List.drop_length]
  simp [hlt]
theorem getD_mem' {α : Type} {xs : List α} {i : Nat} (d : α) (h : i < xs.length) : xs.getD i d = xs[i] := by simp [h]
section
variable {P : Program} {w : World} {K : PySem.W.Frag} {mg : Str → Option Value} {base : Heap}
theorem scPoss : FnScope ["book", "doors", "marks", "inner", "close", "escape", "ways", "door"] ["book", "doors"] (defScope sPoss) := ⟨rfl, rfl, rfl, by decide +kernel, rfl, by decide +kernel, by decide +kernel⟩
set_option maxHeartbeats 0 in
theorem ok_poss {f f1 : Addr} {fd fd1 : FuncData} (F : Fun K "possible_marks" "possible_marks" sPoss f fd)
    (k1 : PySem.W.keepIn K (.ref f1) = true) (b1 : Binds K fd1 ["doors"] []) (m1 : mg "tongue_within" = some (.ref f1)) (G1 : FnOk P w K mg base CX0 1 f1 fd1 ["doors"] spWithin) : FnOk P w K mg base CX0 2 f fd ["book", "doors"] spPoss := by
  refine F.ok scPoss (fun vs H Q E h => ?_) (fun cdv A outer s H vs Q E hr h => ?_)
  · obtain ⟨z, v, b, q, ds, rfl, _⟩ := h
    rfl
  · obtain ⟨z, v, b, q, ds, rfl, hB, R0, hok, ⟨vs, hq, RD⟩, hld, k⟩ := h
    obtain ⟨a, xs, rfl, haz, ha, hxl, R⟩ := rep_book R0
    obtain ⟨hb1, hb6, htok, _⟩ := hok
    have nd := scPoss.nd
    have big := big1000
    have hvl : vs.length = ds.length := by have := RD.length; simpa using this
    refine ⟨_, pss_cons (ps_set (i := 2) nd rfl (Or.inl rfl) (pe_lst pa_nil))
      (pss_cons (ps_if (pt_truth (pv 1) (fun _ => rfl)) (pss_cons (ps_asg (pe_ix ix_list (pv 1) (pe_un un_neg pe_int) (fun _ _ => rfl)) (pg_tup rfl (pgs_cons (pg_name (i := 3) nd rfl (Or.inl rfl)) (pgs_cons (pg_name (i := 4) nd rfl (Or.inl rfl)) pgs_nil))))
        (pss_one (ps_expr (pe_bm PySem.F.plainAttrs_list PySem.F.slot_list_append PySem.F.type_list_append mt_append (pv 2) (pa_cons (pe_tup (pa_cons (pv 4) (pa_cons pe_non pa_nil))) pa_nil))))) pss_nil)
      (pss_cons (ps_asg (pe_ix ix_tup (pv 0) (pe_call G1 hr rfl m1 k1 b1 .nil pass0 (pa_cons (pv 1) pa_nil)) (fun _ _ => rfl)) (pg_tup rfl (pgs_cons (pg_name (i := 5) nd rfl (Or.inl rfl)) (pgs_cons (pg_name (i := 6) nd rfl (Or.inl rfl)) pgs_nil))))
      (pss_cons (ps_for PassesOwn.never rfl (pi_tup (pv 6)) (pg_name (i := 7) nd rfl (Or.inl rfl))
        (pss_one (ps_expr (pe_bm PySem.F.plainAttrs_list PySem.F.slot_list_append PySem.F.type_list_append mt_append (pv 2) (pa_cons (pe_tup (pa_cons (pe_ix ix_tup (pv 7) pe_int (fun _ _ => rfl)) (pa_cons (pv 7) pa_nil))) pa_nil)))))
      (pss_one (ps_ret (pv 2)))))), ?_⟩
    dsimp only [cxOf, Cx.nox, Cx.wish]
    refine ⟨Nat.zero_le _, fun pm npm => ?_⟩
    have s1 := Same.new (o := .lst []) npm
    have hpq : q ≠ pm := ne_of_none hq npm
    have hpz : pm ≠ z := hB.ne npm
    dsimp only
    refine seq_cut (J := fun σ' H2 => ∃ (u3 u4 : Option V), σ' = [some (.ref a), some (.ref q), some (.ref pm), u3, u4, none, none, none] ∧ Same H H2 ∧ ∃ ws, H2 pm = some (.lst ws) ∧ Reps z H2 ws (((lastL ds).map fun d => ((d.2.2, none) : Mk)).map mkD)) (fun U J => ?g1) ?g2
    case g1 =>
      refine ⟨_, rfl, _, .inl ⟨vs, SqL.of (s1 _ _ hq), rfl⟩, ?_⟩
      refine ite2 (fun hne => ?_) (fun hne => ?_)
      case refine_1 =>
        have hpos : 0 < ds.length := by
          cases vs with
          | nil => simp at hne
          | cons _ _ => simp at hvl; omega
        obtain ⟨ad, hat, had⟩ := pd_last (RD.mono s1.x) hpos
        refine ⟨_, rfl, 1, rfl, q, vs, -1, _, rfl, rfl, SqL.of (s1 _ _ hq), hat, ad, _, rfl, SqT.of had, rfl, _, _, rfl, _, _, rfl, rfl, _, rfl, .inl ⟨rfl, _, SqL.of upd_same⟩, _, rfl, by show (2 : Nat) ≤ _; omega, fun pt npt => ?_⟩
        have t2 := Same.new (o := .tup [.str (ds.getD (ds.length - 1) ld0).2.2, .non]) npt
        have hpt : upd (upd H pm (.lst [])) pt (.tup [.str (ds.getD (ds.length - 1) ld0).2.2, .non]) pt = some (.tup [.str (ds.getD (ds.length - 1) ld0).2.2, .non]) := upd_same
        have hptz : pt ≠ z := (hB.same s1).ne npt
        have hp2 := t2 pm _ upd_same
        have S2 := s1.trans t2
        generalize upd (upd H pm (.lst [])) pt (.tup [.str (ds.getD (ds.length - 1) ld0).2.2, .non]) = H1 at hpt hp2 S2
        refine ⟨pm, [], _, rfl, rfl, hp2, by show (0 : Nat) < _; omega, ?_⟩
        have s2 : Same H (upd H1 pm (.lst ([] ++ [.ref pt]))) := fun b' o e => by rw [upd_ne (ne_of_none e npm)]; exact S2 b' o e
        have hW : ∃ ws, upd H1 pm (.lst ([] ++ [.ref pt])) pm = some (.lst ws) ∧ Reps z (upd H1 pm (.lst ([] ++ [.ref pt]))) ws (((lastL ds).map fun d => ((d.2.2, none) : Mk)).map mkD) := by
          refine ⟨_, upd_same, Reps.updL hp2 ?_ (noL_mks _)⟩
          rw [lastL_pos hpos]
          have hsm := (hld _ (getD_mem ld0 (i := ds.length - 1) (by omega))).2
          exact .cons (.tup hpt hptz (.cons (.str _ (by have := hsm.2; omega)) (.cons .non .nil))) .nil
        exact J _ _ ⟨_, _, rfl, s2, hW⟩
      case refine_2 =>
        have hz : ds.length = 0 := by
          cases vs with
          | nil => simp at hvl; omega
          | cons _ _ => simp at hne
        have s2 := s1
        have hW : ∃ ws, upd H pm (.lst []) pm = some (.lst ws) ∧ Reps z (upd H pm (.lst [])) ws (((lastL ds).map fun d => ((d.2.2, none) : Mk)).map mkD) := by
          refine ⟨[], upd_same, ?_⟩
          have : ds = [] := List.eq_nil_of_length_eq_zero hz
          rw [this]
          exact .nil
        exact J _ _ ⟨_, _, rfl, s2, hW⟩
    case g2 =>
      rintro σ' H2 ⟨u3, u4, rfl, s2, ws, hw, RW⟩
      obtain ⟨tN, htN, htl⟩ := tongue_nat hld hb1
      obtain ⟨c, d, ys, ec, hcz, hdz, hc, hd, hyl, Ry⟩ := rep_tongue ((reps_tongue (b := b) (i := tN) R htl).mono s2.x)
      have exv : xs[tN]? = some (.ref c) := by
        have h1 : tN < xs.length := by omega
        have h2 : xs.getD tN .non = xs[tN] := by simp [h1]
        rw [List.getElem?_eq_getElem h1, ← h2, ec]
      have etn : b.getD (tongueL ds).toNat tg0 = b.getD tN tg0 := by rw [htN]; rfl
      have tok := htok _ (getD_mem tg0 htl)
      have hyl : ys.length = (b.getD tN tg0).2.length := hyl
      have hposs : possL b ds = (lastL ds).map (fun d => ((d.2.2, none) : Mk)) ++ (b.getD tN tg0).2.map fun d => (d.1, some d) := by unfold possL; rw [etn]
      rw [hposs] at k
      clear hposs etn
      generalize hT : b.getD tN tg0 = tt at *
      have few := tok.2.1
      have hll : (lastL ds).length ≤ 1 := by unfold lastL; rw [List.length_drop]; omega
      refine ⟨_, rfl, _, rfl, z, q, ds, rfl, ⟨vs, s2 _ _ hq, RD.mono s2.x⟩, a, xs, tongueL ds, _, rfl, rfl, SqT.of (s2 _ _ ha), by rw [htN]; exact atI_nat exv, c, _, rfl, SqT.of hc, rfl, _, _, rfl, _, _, rfl, rfl, ?_⟩
      refine ⟨_, rfl, d, rfl, ⟨_, SqT.of hd⟩, for_tup (K := K) (a := d) (xs := ys) (fun i σ H3 => ∃ u3 u4 u, σ = [some (.ref a), some (.ref q), some (.ref pm), u3, u4, some (.str tt.1), some (.ref d), u] ∧ Same H H3 ∧ SameX pm H2 H3 ∧ ∃ ws, H3 pm = some (.lst ws) ∧ Reps z H3 ws (((lastL ds).map (fun d => ((d.2.2, none) : Mk)) ++ (tt.2.take i).map fun d => (d.1, some d)).map mkD))
        ⟨_, _, none, rfl, s2, .refl, ws, hw, by simpa using RW⟩ (fun j σ H3 _ ⟨_, _, _, _, _, s, _⟩ => SqT.of (s _ _ (ne_of hd hw (by intro q; cases q)) hd)) ?_ ?_⟩
      · rintro j y σ H3 hj ⟨u3, u4, u, rfl, s3, sx3, ws3, hw3, RW3⟩
        have hjl : j < tt.2.length := by have := (List.getElem?_eq_some_iff.mp hj).1; omega
        have ey : y = ys.getD j .non := by rw [List.getD_eq_getElem?_getD, hj]; rfl
        have Ry3 : Rep z H3 (ys.getD j .non) (drD (tt.2.getD j dr0)) := Rep.butL hw sx3 (reps_door (ds := tt.2) (i := j) Ry hjl) (noL_dr _)
        obtain ⟨qd, e2, hqz, hqd⟩ := rep_door Ry3
        have dok := tok.2.2 _ (getD_mem dr0 hjl)
        rw [e2] at Ry3
        rw [ey, e2]
        have hwl : ws3.length ≤ 10 := by
          have := RW3.length
          simp at this
          omega
        refine ⟨_, rfl, .inl ⟨rfl, _, SqL.of hw3⟩, _, rfl, qd, _, 0, _, rfl, rfl, SqT.of hqd, atI_nat (j := 0) rfl, _, rfl, by show (2 : Nat) ≤ _; omega, fun pt npt => ?_⟩
        have s4 := Same.new (o := .tup [.str (tt.2.getD j dr0).1, .ref qd]) npt
        have hpt : upd H3 pt (.tup [.str (tt.2.getD j dr0).1, .ref qd]) pt = some (.tup [.str (tt.2.getD j dr0).1, .ref qd]) := upd_same
        have hptz : pt ≠ z := (hB.same s3).ne npt
        have hw4 := s4 _ _ hw3
        have RW4 := RW3.mono s4.x (z := z)
        have Ry4 := Ry3.mono s4.x (z := z)
        have S4 := s3.trans s4
        have SX4 := sx3.trans s4.x
        generalize upd H3 pt (.tup [.str (tt.2.getD j dr0).1, .ref qd]) = H4 at hpt hw4 RW4 Ry4 S4 SX4
        refine ⟨pm, ws3, _, rfl, rfl, hw4, by omega, ?_⟩
        have g1 := markS_len dok.1
        refine ⟨_, _, _, rfl, fun b' o e => by rw [upd_ne (ne_of_none e npm)]; exact S4 b' o e, SX4.upd, _, upd_same, ?_⟩
        refine Reps.updL hw4 ?_ (noL_mks _)
        have et : (tt.2.take (j + 1)).map (fun d => ((d.1, some d) : Mk)) = (tt.2.take j).map (fun d => ((d.1, some d) : Mk)) ++ [((tt.2.getD j dr0).1, some (tt.2.getD j dr0))] := by
          rw [List.take_add_one, List.getElem?_eq_getElem hjl, getD_mem' dr0 hjl, List.map_append]
          rfl
        rw [et, ← List.append_assoc, List.map_append]
        exact RW4.append (.cons (.tup hpt hptz (.cons (.str _ (by omega)) (.cons Ry4 .nil))) .nil)
      · rintro σ H3 ⟨u3, u4, u, rfl, s3, sx3, ws3, hw3, RW3⟩
        rw [hyl, List.take_length] at RW3
        exact ⟨_, rfl, k pm ws3 H3 s3 npm hw3 RW3⟩
end
end T1
namespace T1
open PySem L2
theorem loop_repsF {z : Addr} {J : It} {g : TG} {tt : TT} {te : TE} {Qe : St → Hp → Prop} {σ0 : St} {H0 : Hp} {p : Addr} {n : Nat} {item : Nat → V} (keep : Nat → Bool) (dat : Nat → D) (Pσ : St → Prop) (hσ : Pσ σ0) (hp : H0 p = none) (hn : n ≤ 100000) (ok : ItOk J n item (upd H0 p (.lst [])) p) (nl : ∀ i, NoL (dat i))
    (turn : ∀ i σ H (Ct : V → St → Hp → Prop) (Cf : St → Hp → Prop), i < n → Pσ σ → Same H0 H → (keep i = true → ∀ σ2 v H4, Pσ σ2 → Same H H4 → Rep z H4 v (dat i) → Ct v σ2 H4) → (keep i = false → ∀ σ2 H4, Pσ σ2 → Same H H4 → Cf σ2 H4) →
      g (item i) σ H fun σ2 H2 => tt σ2 H2 fun b H3 => if b = true then te σ2 H3 fun v H4 => Ct v σ2 H4 else Cf σ2 H3)
    (hQ : ∀ σ H vs, Same H0 H → H p = some (.lst vs) → Reps z H vs (((List.range n).filter keep).map dat) → Qe σ H) : tLoop J g tt (tApp p te) Qe σ0 (upd H0 p (.lst [])) := by
  have s0 : Same H0 (upd H0 p (.lst [])) := Same.new hp
  have up : ∀ {H}, SameX p (upd H0 p (.lst [])) H → Same H0 H := fun {H} h b o e => h b o (ne_of_none e hp) (s0 b o e)
  have nls : ∀ l : List Nat, NoLs (l.map dat) := fun l => by
    induction l with
    | nil => exact .nil
    | cons a r ih => exact .cons (nl a) ih
  refine ⟨fun i m σ H => m = n - i ∧ i ≤ n ∧ Pσ σ ∧ SameX p (upd H0 p (.lst [])) H ∧ ∃ vs, H p = some (.lst vs) ∧ vs.length ≤ i ∧ Reps z H vs (((List.range i).filter keep).map dat), ⟨n, rfl, Nat.zero_le _, hσ, .refl, [], upd_same, Nat.le_refl _, .nil⟩, ?_⟩
  rintro i m σ H ⟨rfl, hi, hP, hS, vs, hv, hl, R⟩
  by_cases hlt : i < n
  · refine .inr ⟨ok.go i H hlt hS, fun σ' H' => Pσ σ' ∧ SameX p (upd H0 p (.lst [])) H' ∧ ∃ vs, H' p = some (.lst vs) ∧ vs.length ≤ i + 1 ∧ Reps z H' vs (((List.range (i + 1)).filter keep).map dat), fun σ' H' ⟨a, b, c⟩ => ⟨n - (i + 1), by omega, rfl, hlt, a, b, c⟩, fun x H' y => ?_⟩
    obtain ⟨rfl, rfl⟩ := ok.yld i H x H' hlt hS y
    have er : ((List.range (i + 1)).filter keep).map dat = ((List.range i).filter keep).map dat ++ (if keep i then [dat i] else []) := by
      rw [List.range_succ, List.filter_append, List.map_append]
      cases g : keep i <;> simp [g]
    refine turn i σ H' (fun v σ2 H4 => ∃ ys, H4 p = some (.lst ys) ∧ ys.length < sizeLine ∧ (Pσ σ2 ∧ SameX p (upd H0 p (.lst [])) (upd H4 p (.lst (ys ++ [v]))) ∧ ∃ vs, upd H4 p (.lst (ys ++ [v])) p = some (.lst vs) ∧ vs.length ≤ i + 1 ∧ Reps z (upd H4 p (.lst (ys ++ [v]))) vs (((List.range (i + 1)).filter keep).map dat))) _ hlt hP (up hS) (fun hk σ2 v H4 hP2 hS2 R2 => ?_) fun hk σ2 H4 hP2 hS2 => ?_
    · have h4 := hS2 _ _ hv
      have big : (100000 : Nat) < sizeLine := by rw [sizeLine_eq]; decide
      refine ⟨vs, h4, by omega, hP2, (hS.trans hS2.x).upd, vs ++ [v], upd_same, by simp; omega, ?_⟩
      refine Reps.updL h4 ?_ (nls _)
      rw [er, hk]
      exact (R.mono hS2.x).append (.cons R2 .nil)
    · refine ⟨hP2, hS.trans hS2.x, vs, hS2 _ _ hv, by omega, ?_⟩
      rw [er, hk]
      simpa using R.mono hS2.x
  · have e : i = n := by omega
    subst e
    exact .inl ⟨ok.stop H hS, hQ σ H vs (up hS) hv R⟩
theorem range_filter {α β : Type} (xs : List α) (d : α) (p : α → Bool) (f : α → β) : ((List.range xs.length).filter fun i => p (xs.getD i d)).map (fun i => f (xs.getD i d)) = (xs.filter p).map f := by
  have e : (List.range xs.length).map (fun i => xs.getD i d) = xs := by
    refine List.ext_getElem (by simp) fun i h1 h2 => ?_
    simp at h1
    simp [h1]
  have : (xs.filter p).map f = (((List.range xs.length).map (fun i => xs.getD i d)).filter p).map f := by rw [e]
  rw [this, List.filter_map, List.map_map]
  rfl
def fitsP (b : Bk) (ds : List LDr) (x : Str) (i : Nat) : List Mk := (possL b ds).filter fun m => stAt x m.1 i
abbrev mk0 : Mk := (⟨#[]⟩, none)
theorem rep_mk {z : Addr} {H : Hp} {v : V} {m : Mk} (r : Rep z H v (mkD m)) : ∃ a u, v = .ref a ∧ a ≠ z ∧ H a = some (.tup [.str m.1, u]) ∧ m.1.length ≤ 1000 ∧ Rep z H u (mkOD m.2) := by
  cases r with
  | tup h hz r =>
    cases r with
    | cons r1 r =>
      cases r with
      | cons r2 r =>
        cases r
        cases r1 with
        | str _ h1 => exact ⟨_, _, rfl, hz, h, h1, r2⟩
theorem reps_mk {z : Addr} {H : Hp} {xs : List V} {ms : List Mk} {i : Nat} (r : Reps z H xs (ms.map mkD)) (hi : i < ms.length) : Rep z H (xs.getD i .non) (mkD (ms.getD i mk0)) := by
  have := r.get (i := i) (by simpa using hi)
  simpa [hi] using this
inductive spFitP : List V → Hp → VK → XK → Prop where
  | mk {vs : List V} {H : Hp} {Q : VK} {E : XK} (z v b q ds x : _) (i : Nat) (c1 : vs = [v, .str x, .int i, .ref q]) (c2 : Bag z H) (c3 : Rep z H v (bkD b)) (c4 : BkOk b) (c5 : PDs z H q ds) (c6 : LdOk b ds) (c7 : ∀ p ws H', Same H H' → H p = none → H' p = some (.lst ws) → Reps z H' ws ((fitsP b ds x i).map mkD) → Q (.ref p) H') : spFitP vs H Q E
section
variable {P : Program} {w : World} {K : PySem.W.Frag} {mg : Str → Option Value} {base : Heap}
theorem scFitP : FnScope ["book", "text", "place", "doors"] ["book", "text", "place", "doors"] (defScope sFitting) := ⟨rfl, rfl, rfl, by decide +kernel, rfl, by decide +kernel, by decide +kernel⟩
theorem ndMDPT : (["mark", "door", "place", "text"] : List Str).Nodup := by decide +kernel
theorem possL_few {b : Bk} {ds : List LDr} (htok : ∀ t ∈ b, TgOk b.length t) : (possL b ds).length ≤ 10 := by
  unfold possL
  have h1 : (lastL ds).length ≤ 1 := by unfold lastL; rw [List.length_drop]; omega
  have h2 : (b.getD (tongueL ds).toNat tg0).2.length ≤ 6 := by
    by_cases h : (tongueL ds).toNat < b.length
    · exact (htok _ (getD_mem tg0 h)).2.1
    · have : b.getD (tongueL ds).toNat tg0 = tg0 := by simp [h]
      rw [this]
      exact Nat.zero_le _
  rw [List.length_append, List.length_map, List.length_map]
  omega
set_option maxHeartbeats 0 in
theorem ok_fitP {f f1 : Addr} {fd fd1 : FuncData} (F : Fun K "fitting_marks" "fitting_marks" sFitting f fd)
    (k1 : PySem.W.keepIn K (.ref f1) = true) (b1 : Binds K fd1 ["book", "doors"] []) (m1 : mg "possible_marks" = some (.ref f1)) (G1 : FnOk P w K mg base CX0 2 f1 fd1 ["book", "doors"] spPoss) : FnOk P w K mg base CX0 3 f fd ["book", "text", "place", "doors"] spFitP := by
  refine F.ok scFitP (fun vs H Q E h => ?_) (fun cdv A outer s H vs Q E hr h => ?_)
  · obtain ⟨z, v, b, q, ds, x, i, rfl, _⟩ := h
    rfl
  · obtain ⟨z, v, b, q, ds, x, i, rfl, hB, R0, hok, hD, hld, k⟩ := h
    refine ⟨_, pss_one (ps_ret (pe_comp1 (N' := ["mark", "door", "place", "text"]) (js := [none, none, some 2, some 1]) rfl rfl (blk_of (defScope sFitting) (by decide +kernel)) ⟨rfl, Or.inr (Or.inl rfl), rfl, rfl, Or.inr (Or.inl rfl), rfl, trivial⟩ (pi_list (pe_call G1 hr rfl m1 k1 b1 .nil pass0 (pa_cons (pv 0) (pa_cons (pv 3) pa_nil))))
        (fun cl s H fp => pg_tupB 2 rfl (pgs_cons (pg_name (i := 0) ndMDPT rfl (Or.inl rfl) (Or.inr rfl)) (pgs_cons (pg_name (i := 1) ndMDPT rfl (Or.inl rfl) (Or.inr rfl)) pgs_nil)))
        (fun cl s H fp => pts_one (pt_val (pe_bmB PySem.F.plainAttrs_str PySem.F.slot_str_startswith PySem.F.type_str_startswith mt_startswith_from (pv 3) (pa_cons (pv 0) (pa_cons (pv 2) pa_nil)))))
        (fun cl s H fp => pe_tup (pa_cons (pv 0) (pa_cons (pv 1) pa_nil))))), ?_⟩
    dsimp only [cxOf, Cx.nox, Cx.wish]
    have big := big1000
    refine ⟨_, rfl, _, rfl, z, v, b, q, ds, rfl, hB, R0, hok, hD, hld, fun l ws H1 s1 nl hl RW => ?_⟩
    have few := possL_few (ds := ds) hok.2.2.1
    have hwl : ws.length = (possL b ds).length := by have := RW.length; simpa using this
    refine ⟨l, rfl, ⟨_, SqL.of hl⟩, fun p np => ?_⟩
    have hlp : l ≠ p := ne_of_none hl np
    refine loop_repsF (z := z) (fun j => stAt x ((possL b ds).getD j mk0).1 i) (fun j => mkD ((possL b ds).getD j mk0)) (fun σ => ∃ u v, σ = [u, v, some (.int i), some (.str x)]) ⟨none, none, rfl⟩ np (by omega) (itok_lst (xs := ws) (by rw [upd_ne hlp]; exact hl) hlp) (fun j => noL_mk _) (fun j σ H2 Ct Cf hj ⟨u, v, hv⟩ hS hT hF => ?_) (fun σ H2 vs s2 hp R2 => ?_)
    · subst hv
      have Rj := (reps_mk (ms := possL b ds) (i := j) RW (by omega)).mono hS.x (z := z)
      obtain ⟨a, u, e, haz, ha, hlen, Ru⟩ := rep_mk Rj
      rw [e]
      refine ⟨a, _, rfl, SqT.of ha, rfl, _, _, rfl, _, _, rfl, rfl, ?_⟩
      refine ⟨_, rfl, rfl, _, rfl, _, rfl, _, _, i, rfl, rfl, _, rfl, ?_⟩
      refine ite2 (fun h => ?_) (fun h => ?_)
      · refine ⟨_, rfl, _, rfl, by show (2 : Nat) ≤ _; omega, fun pt npt => ?_⟩
        have s3 := Same.new (o := .tup [.str ((possL b ds).getD j mk0).1, u]) npt
        refine hT h _ _ _ ⟨_, _, rfl⟩ s3 (.tup upd_same (((hB.same s1).same hS).ne npt) (.cons (.str _ hlen) (.cons (Ru.mono s3.x) .nil)))
      · exact hF (by simpa using h) _ _ ⟨_, _, rfl⟩ (Same.refl _)
    · rw [hwl, range_filter (possL b ds) mk0 (fun m => stAt x m.1 i) mkD] at R2
      exact k p vs H2 (s1.trans s2) (s1.free np) hp R2
end
end T1
namespace T1
open PySem L2
def takeL (ds : List LDr) (i : Nat) (m : Str) : Option Dr → Stp × List LDr
  | none => (((i : Int), (m.length : Int), Str.ofString "close", tongueL ds.dropLast, (ds.length : Int) - 1), ds.dropLast)
  | some d => (((i : Int), (m.length : Int), Str.ofString "open", tongueL ds, (ds.length : Int)), ds ++ [((i : Int), d.2.1, d.2.2)])
theorem rep_doorL {z : Addr} {H : Hp} {v : V} {d : Dr} (r : Rep z H v (drD d)) : ∃ a, v = .ref a ∧ a ≠ z ∧ H a = some (.tup [.str d.1, .int d.2.1, .str d.2.2]) ∧ d.2.2.length ≤ 1000 := by
  cases r with
  | tup h hz r =>
    cases r with
    | cons r1 r =>
      cases r with
      | cons r2 r =>
        cases r with
        | cons r3 r =>
          cases r
          cases r1
          cases r2
          cases r3 with
          | str _ h3 => exact ⟨_, rfl, hz, h, h3⟩
inductive spTakeM : List V → Hp → VK → XK → Prop where
  | mk {vs : List V} {H : Hp} {Q : VK} {E : XK} (z m u o : _) (i : Nat) (q ds : _) (c1 : vs = [.str m, u, .int i, .ref q]) (c2 : Bag z H) (c3 : q ≠ z) (c4 : Rep z H u (mkOD o)) (c5 : m.length ≤ 1000) (c6 : PDs z H q ds) (c7 : ds.length ≤ 20000) (c8 : (o = none → 0 < ds.length)) (c9 : ∀ p H', SameX q H H' → H p = none → H' p = some (.tup (stV (takeL ds i m o).1)) → PDs z H' q (takeL ds i m o).2 → Q (.ref p) H') : spTakeM vs H Q E
def plainL (b : Bk) (ds : List LDr) (x : Str) (i : Nat) : Stp :=
  if (⟨#[x.cps.getD i 0]⟩ : Str) = (b.getD (tongueL ds).toNat tg0).1 then
    (if i + 1 < x.length then ((i : Int), 2, Str.ofString "escape", tongueL ds, (ds.length : Int)) else ((i : Int), 1, Str.ofString "cut", tongueL ds, (ds.length : Int)))
  else ((i : Int), 1, Str.ofString "sign", tongueL ds, (ds.length : Int))
inductive spPlainR : List V → Hp → VK → XK → Prop where
  | mk {vs : List V} {H : Hp} {Q : VK} {E : XK} (z v b q ds x : _) (i : Nat) (c1 : vs = [v, .str x, .int i, .ref q]) (c2 : Rep z H v (bkD b)) (c3 : BkOk b) (c4 : PDs z H q ds) (c5 : LdOk b ds) (c6 : i < x.length) (c7 : x.length ≤ 20000) (c8 : ∀ p H', Same H H' → H p = none → H' p = some (.tup (stV (plainL b ds x i))) → Q (.ref p) H') : spPlainR vs H Q E
section
variable {P : Program} {w : World} {K : PySem.W.Frag} {mg : Str → Option Value} {base : Heap}
theorem scTakeM : FnScope ["mark", "door", "place", "doors", "step", "opening", "inner", "close"] ["mark", "door", "place", "doors"] (defScope sTakeM) := ⟨rfl, rfl, rfl, by decide +kernel, rfl, by decide +kernel, by decide +kernel⟩
set_option maxHeartbeats 0 in
theorem ok_takeM {f f1 : Addr} {fd fd1 : FuncData} (F : Fun K "take_mark" "take_mark" sTakeM f fd) (T : TxtB mg)
    (k1 : PySem.W.keepIn K (.ref f1) = true) (b1 : Binds K fd1 ["doors"] []) (m1 : mg "tongue_within" = some (.ref f1)) (G1 : FnOk P w K mg base CX0 1 f1 fd1 ["doors"] spWithin) : FnOk P w K mg base CX0 2 f fd ["mark", "door", "place", "doors"] spTakeM := by
  refine F.ok scTakeM (fun vs H Q E h => ?_) (fun cdv A outer s H vs Q E hr h => ?_)
  · obtain ⟨z, m, u, o, i, q, ds, rfl, _⟩ := h
    rfl
  · obtain ⟨z, m, u, o, i, q, ds, rfl, hB, hqz, Ru, hm, ⟨vs, hq, RD⟩, hdl, hno, k⟩ := h
    have nd := scTakeM.nd
    have big := big1000
    have big2 : (100000 : Nat) ≤ sizeLine := by rw [sizeLine_eq]; decide
    have hvl : vs.length = ds.length := by have := RD.length; simpa using this
    refine ⟨_, pss_cons (ps_if (pt_cmpR op_isN (pv 1) pe_non (nomark _))
        (pss_cons (ps_expr (pe_bm0 PySem.F.plainAttrs_list PySem.F.slot_list_pop PySem.F.type_list_pop mt_pop (pv 3)))
        (pss_one (ps_ret (pe_tup (pa_cons (pv 2) (pa_cons (pe_callB call_len_str (by rfl) T.len b_len (pa_cons (pv 0) pa_nil)) (pa_cons pe_str (pa_cons (pe_call G1 hr rfl m1 k1 b1 .nil pass0 (pa_cons (pv 3) pa_nil)) (pa_cons (pe_callB call_len_seq (by rfl) T.len b_len (pa_cons (pv 3) pa_nil)) pa_nil))))))))) pss_nil)
      (pss_cons (ps_set (i := 4) nd rfl (Or.inl rfl) (pe_tup (pa_cons (pv 2) (pa_cons (pe_callB call_len_str (by rfl) T.len b_len (pa_cons (pv 0) pa_nil)) (pa_cons pe_str (pa_cons (pe_call G1 hr rfl m1 k1 b1 .nil pass0 (pa_cons (pv 3) pa_nil)) (pa_cons (pe_callB call_len_seq (by rfl) T.len b_len (pa_cons (pv 3) pa_nil)) pa_nil)))))))
      (pss_cons (ps_asg (pv 1) (pg_tup rfl (pgs_cons (pg_name (i := 5) nd rfl (Or.inl rfl)) (pgs_cons (pg_name (i := 6) nd rfl (Or.inl rfl)) (pgs_cons (pg_name (i := 7) nd rfl (Or.inl rfl)) pgs_nil)))))
      (pss_cons (ps_expr (pe_bm PySem.F.plainAttrs_list PySem.F.slot_list_append PySem.F.type_list_append mt_append (pv 3) (pa_cons (pe_tup (pa_cons (pv 6) (pa_cons (pv 7) pa_nil))) pa_nil)))
      (pss_one (ps_ret (pv 4)))))), ?_⟩
    dsimp only [cxOf, Cx.nox, Cx.wish]
    cases o with
    | none =>
      cases Ru
      have hpos := hno rfl
      refine ⟨_, rfl, rfl, _, rfl, ?_⟩
      refine iteT ?_
      refine ⟨_, rfl, .inl ⟨rfl, _, SqL.of hq⟩, q, vs, _, rfl, rfl, hq, get_of (by omega), ?_⟩
      have hq1 : upd H q (.lst vs.dropLast) q = some (.lst vs.dropLast) := upd_same
      have RD1 : Reps z (upd H q (.lst vs.dropLast)) vs.dropLast (ds.dropLast.map pdD) := by
        rw [List.map_dropLast]
        exact Reps.updL hq RD.dropLast (by rw [← List.map_dropLast]; exact noL_pds _)
      have sx1 : SameX q H (upd H q (.lst vs.dropLast)) := SameX.refl.upd
      generalize upd H q (.lst vs.dropLast) = H1 at hq1 RD1 sx1
      refine ⟨_, rfl, _, rfl, m, rfl, by omega, _, rfl, z, q, ds.dropLast, rfl, ⟨_, hq1, RD1⟩, _, rfl, q, _, rfl, .inl (SqL.of hq1), by show (5 : Nat) ≤ _; omega, fun p np => ?_⟩
      have hpn : H p = none := by
        cases e : H p with
        | none => rfl
        | some o =>
          have hpq : p ≠ q := (ne_of_none hq1 np).symm
          rw [sx1 p o hpq e] at np
          cases np
      have t2 := Same.new (o := .tup [.int i, .int m.length, .str (Str.ofString "close"), .int (tongueL ds.dropLast), .int vs.dropLast.length]) np
      refine k p _ (sx1.trans t2.x) hpn ?_ ⟨_, t2 _ _ hq1, RD1.mono t2.x⟩
      rw [upd_same]
      have : ((vs.dropLast.length : Nat) : Int) = (ds.length : Int) - 1 := by simp; omega
      rw [this]
      rfl
    | some d =>
      obtain ⟨a, rfl, haz, ha, hcl⟩ := rep_doorL Ru
      refine ⟨_, rfl, rfl, _, rfl, ?_⟩
      refine iteF ?_
      refine ⟨_, rfl, _, rfl, m, rfl, by omega, _, rfl, z, q, ds, rfl, ⟨_, hq, RD⟩, _, rfl, q, _, rfl, .inl (SqL.of hq), by show (5 : Nat) ≤ _; omega, fun p np => ?_⟩
      have t1 := Same.new (o := .tup [.int i, .int m.length, .str (Str.ofString "open"), .int (tongueL ds), .int vs.length]) np
      have hp1 : upd H p (.tup [.int i, .int m.length, .str (Str.ofString "open"), .int (tongueL ds), .int vs.length]) p = some (.tup (stV (takeL ds i m (some d)).1)) := by
        rw [upd_same, hvl]
        rfl
      generalize upd H p (.tup [.int i, .int m.length, .str (Str.ofString "open"), .int (tongueL ds), .int vs.length]) = H1 at t1 hp1
      refine ⟨_, rfl, a, _, rfl, SqT.of (t1 _ _ ha), rfl, _, _, rfl, _, _, rfl, _, _, rfl, rfl, ?_⟩
      refine ⟨_, rfl, .inl ⟨rfl, _, SqL.of (t1 _ _ hq)⟩, _, rfl, _, rfl, by show (2 : Nat) ≤ _; omega, fun pt npt => ?_⟩
      have t2 := Same.new (o := .tup [.int d.2.1, .str d.2.2]) npt
      have hpt : upd H1 pt (.tup [.int d.2.1, .str d.2.2]) pt = some (.tup [.int d.2.1, .str d.2.2]) := upd_same
      have hptz : pt ≠ z := (hB.same t1).ne npt
      have S2 := t1.trans t2
      have hp2 := t2 _ _ hp1
      generalize upd H1 pt (.tup [.int d.2.1, .str d.2.2]) = H2 at hpt S2 hp2
      have hq2 := S2 _ _ hq
      refine ⟨q, vs, _, rfl, rfl, hq2, by omega, ?_⟩
      refine ⟨_, rfl, ?_⟩
      refine k p _ (S2.x.upd) np ?_ ⟨_, upd_same, ?_⟩
      · rw [upd_ne (ne_of hp2 hq2 (by intro q; cases q))]
        exact hp2
      · refine Reps.updL hq2 ?_ (noL_pds _)
        show Reps z H2 _ ((ds ++ [((i : Int), d.2.1, d.2.2)]).map pdD)
        rw [List.map_append]
        exact (RD.mono S2.x).append (.cons (.tup hpt hptz (.cons (.int _) (.cons (.str _ hcl) .nil))) .nil)
theorem scPlainR : FnScope ["book", "text", "place", "doors", "tongue", "escape", "ways"] ["book", "text", "place", "doors"] (defScope sPlainR) := ⟨rfl, rfl, rfl, by decide +kernel, rfl, by decide +kernel, by decide +kernel⟩
set_option maxHeartbeats 0 in
theorem ok_plainR {f f1 : Addr} {fd fd1 : FuncData} (F : Fun K "read_plain" "read_plain" sPlainR f fd) (T : TxtB mg)
    (k1 : PySem.W.keepIn K (.ref f1) = true) (b1 : Binds K fd1 ["doors"] []) (m1 : mg "tongue_within" = some (.ref f1)) (G1 : FnOk P w K mg base CX0 1 f1 fd1 ["doors"] spWithin) : FnOk P w K mg base CX0 2 f fd ["book", "text", "place", "doors"] spPlainR := by
  refine F.ok scPlainR (fun vs H Q E h => ?_) (fun cdv A outer s H vs Q E hr h => ?_)
  · obtain ⟨z, v, b, q, ds, x, i, rfl, _⟩ := h
    rfl
  · obtain ⟨z, v, b, q, ds, x, i, rfl, R0, hok, ⟨vs, hq, RD⟩, hld, hi, hx, k⟩ := h
    obtain ⟨a, xs, rfl, haz, ha, hxl, R⟩ := rep_book R0
    obtain ⟨hb1, hb6, htok, _⟩ := hok
    have nd := scPlainR.nd
    have big := big1000
    have big2 : (100000 : Nat) ≤ sizeLine := by rw [sizeLine_eq]; decide
    have hvl : vs.length = ds.length := by have := RD.length; simpa using this
    refine ⟨_, pss_cons (ps_set (i := 4) nd rfl (Or.inl rfl) (pe_call G1 hr rfl m1 k1 b1 .nil pass0 (pa_cons (pv 3) pa_nil)))
      (pss_cons (ps_asg (pe_ix ix_tup (pv 0) (pv 4) (fun _ _ => rfl)) (pg_tup rfl (pgs_cons (pg_name (i := 5) nd rfl (Or.inl rfl)) (pgs_cons (pg_name (i := 6) nd rfl (Or.inl rfl)) pgs_nil))))
      (pss_cons (ps_if (pt_cmpR op_ne (pe_ix ix_str (pv 1) (pv 2) (fun _ _ => rfl)) (pv 5) (nomark _)) (pss_one (ps_ret (pe_tup (pa_cons (pv 2) (pa_cons pe_int (pa_cons pe_str (pa_cons (pv 4) (pa_cons (pe_callB call_len_seq (by rfl) T.len b_len (pa_cons (pv 3) pa_nil)) pa_nil)))))))) pss_nil)
      (pss_cons (ps_if (pt_cmpR op_lt (pe_op op_add (pv 2) pe_int) (pe_callB call_len_str (by rfl) T.len b_len (pa_cons (pv 1) pa_nil)) (nomark _)) (pss_one (ps_ret (pe_tup (pa_cons (pv 2) (pa_cons pe_int (pa_cons pe_str (pa_cons (pv 4) (pa_cons (pe_callB call_len_seq (by rfl) T.len b_len (pa_cons (pv 3) pa_nil)) pa_nil)))))))) pss_nil)
      (pss_one (ps_ret (pe_tup (pa_cons (pv 2) (pa_cons pe_int (pa_cons pe_str (pa_cons (pv 4) (pa_cons (pe_callB call_len_seq (by rfl) T.len b_len (pa_cons (pv 3) pa_nil)) pa_nil))))))))))), ?_⟩
    dsimp only [cxOf, Cx.nox, Cx.wish]
    have hxi : x.cps.toList[i]? = some (x.cps.getD i 0) := by
      have : i < x.cps.size := hi
      simp [Array.getD, this]
    obtain ⟨tN, htN, htl⟩ := tongue_nat hld hb1
    obtain ⟨c, d, ys, ec, hcz, hdz, hc, hd, hyl, Ry⟩ := rep_tongue (reps_tongue (b := b) (i := tN) R htl)
    have exv : xs[tN]? = some (.ref c) := by
      have h1 : tN < xs.length := by omega
      have h2 : xs.getD tN .non = xs[tN] := by simp [h1]
      rw [List.getElem?_eq_getElem h1, ← h2, ec]
    have etn : b.getD (tongueL ds).toNat tg0 = b.getD tN tg0 := by rw [htN]; rfl
    unfold plainL at k
    rw [etn] at k
    refine ⟨_, rfl, z, q, ds, rfl, ⟨_, hq, RD⟩, ?_⟩
    refine ⟨_, rfl, _, rfl, a, xs, tongueL ds, _, rfl, rfl, SqT.of ha, by rw [htN]; exact atI_nat exv, c, _, rfl, SqT.of hc, rfl, _, _, rfl, _, _, rfl, rfl, ?_⟩
    refine ⟨_, rfl, _, rfl, x, i, _, rfl, rfl, by omega, atI_nat hxi, _, rfl, rfl, _, rfl, ?_⟩
    refine ite2 (fun g => ?_) (fun g => ?_)
    · have hesc : ¬ (⟨#[x.cps.getD i 0]⟩ : Str) = (b.getD tN tg0).1 := fun e => by rw [e] at g; simp at g
      rw [if_neg hesc] at k
      refine ⟨_, rfl, _, rfl, _, rfl, q, _, rfl, .inl (SqL.of hq), by show (5 : Nat) ≤ _; omega, fun p np => ?_⟩
      refine k p _ (Same.new np) np ?_
      rw [upd_same, hvl]
      rfl
    · have hesc : (⟨#[x.cps.getD i 0]⟩ : Str) = (b.getD tN tg0).1 := by simpa using g
      rw [if_pos hesc] at k
      refine ⟨_, rfl, _, _, rfl, rfl, _, rfl, x, rfl, by omega, _, _, rfl, rfl, _, rfl, ?_⟩
      refine ite2 (fun g2 => ?_) (fun g2 => ?_)
      · have h2 : i + 1 < x.length := by have := of_decide_eq_true g2; omega
        rw [if_pos h2] at k
        refine ⟨_, rfl, _, rfl, _, rfl, q, _, rfl, .inl (SqL.of hq), by show (5 : Nat) ≤ _; omega, fun p np => ?_⟩
        refine k p _ (Same.new np) np ?_
        rw [upd_same, hvl]
        rfl
      · have h2 : ¬ i + 1 < x.length := fun h => g2 (decide_eq_true (by omega))
        rw [if_neg h2] at k
        refine ⟨_, rfl, _, rfl, _, rfl, q, _, rfl, .inl (SqL.of hq), by show (5 : Nat) ≤ _; omega, fun p np => ?_⟩
        refine k p _ (Same.new np) np ?_
        rw [upd_same, hvl]
        rfl
end
end T1
namespace T1
open PySem L2
theorem cut_extract {x : Str} {i k : Nat} (h : i + k ≤ x.length) : cutS x (some (i : Int)) (some ((i : Int) + (k : Int))) = ⟨x.cps.extract i (i + k)⟩ := by
  have e : ((i : Int) + (k : Int)) = ((i + k : Nat) : Int) := by omega
  rw [e]
  unfold cutS
  rw [HT.sIx_nat, HT.sIx_nat, Nat.min_eq_left h, Nat.min_eq_left (by omega)]
  congr 1
  apply Array.ext'
  simp [Array.toList_extract, List.extract_eq_drop_take]
theorem stAt_fit {x m : Str} {i : Nat} (hi : i ≤ x.length) : stAt x m i = fitAt x i m := by
  cases g : fitAt x i m with
  | true =>
    have hl := fit_len g hi
    have a := of_decide_eq_true g
    have a : cutS x (some (i : Int)) (some ((i : Int) + m.length)) = m := by injection a
    rw [cut_extract hl] at a
    have a2 : x.cps.extract i (i + m.length) = m.cps := congrArg Str.cps a
    unfold stAt Builtin.Str.subAt
    rw [decide_eq_true hl, a2]
    simp
  | false =>
    cases g2 : stAt x m i with
    | false => rfl
    | true =>
      exfalso
      unfold stAt Builtin.Str.subAt at g2
      rw [Bool.and_eq_true] at g2
      have hl := of_decide_eq_true g2.1
      have a2 : x.cps.extract i (i + m.length) = m.cps := by simpa using g2.2
      have : fitAt x i m = true := by
        unfold fitAt
        rw [cut_extract hl, a2]
        simp
      rw [g] at this
      cases this
theorem fit_first {x m : Str} {i : Nat} (hi : i ≤ x.length) (h : fitAt x i m = true) (hm : 1 ≤ m.length) : x.cps.getD i 0 ∈ m.cps.toList := by
  have hl := fit_len h hi
  have a := of_decide_eq_true h
  have a : cutS x (some (i : Int)) (some ((i : Int) + m.length)) = m := by injection a
  rw [cut_extract hl] at a
  have a2 : x.cps.extract i (i + m.length) = m.cps := congrArg Str.cps a
  rw [← a2]
  have hl2 : i + m.length ≤ x.cps.size := hl
  have hi2 : i < x.cps.size := by omega
  rw [Array.toList_extract, List.extract_eq_drop_take]
  have e : x.cps.getD i 0 = x.cps.toList[i]'(by simpa using hi2) := by simp [Array.getD, hi2]
  rw [e, List.drop_eq_getElem_cons (by simpa using hi2)]
  have : i + m.length - i = (m.length - 1) + 1 := by omega
  rw [this, List.take_succ_cons]
  exact List.mem_cons_self
theorem esc_free {b : Bk} (hb : BkOk b) {t : Tg} (ht : t ∈ b) {m : Str} (hm : m ∈ marksB b) {c : Nat} (hc : c ∈ m.cps.toList) : (⟨#[c]⟩ : Str) ≠ t.1 := fun e => by
  have h := hb.2.2.2
  unfold bookB at h
  simp only [Bool.and_eq_true, Bool.not_eq_true'] at h
  have h2 := h.1.2
  unfold escB at h2
  rw [List.any_eq_false] at h2
  have h3 := h2 m hm
  apply h3
  unfold escIn
  rw [List.any_eq_true]
  refine ⟨c, hc, ?_⟩
  rw [List.any_eq_true]
  exact ⟨t.1, List.mem_map_of_mem ht, by rw [e]; exact beq_self_eq_true _⟩
theorem some_marks {b : Bk} {ds : List LDr} (hd : LdBk b ds) {m : Str} (hm : m ∈ someL b ds) : m ∈ marksB b := by
  unfold someL at hm
  rcases List.mem_append.mp hm with hm | hm
  · obtain ⟨dd, hdd, rfl⟩ := List.mem_map.mp hm
    by_cases hl : (tongueL ds).toNat < b.length
    · exact List.mem_flatMap.mpr ⟨_, getD_mem tg0 hl, List.mem_flatMap.mpr ⟨dd, hdd, List.mem_cons_self⟩⟩
    · have e : b.getD (tongueL ds).toNat tg0 = tg0 := by simp [hl]
      rw [e] at hdd
      cases hdd
  · obtain ⟨dd, hdd, rfl⟩ := List.mem_map.mp hm
    obtain ⟨t, ht, dr, hdr, e1, e2⟩ := hd dd (List.mem_of_mem_drop hdd)
    rw [e2]
    exact List.mem_flatMap.mpr ⟨t, ht, List.mem_flatMap.mpr ⟨dr, hdr, List.mem_cons_of_mem _ List.mem_cons_self⟩⟩
theorem poss_some {b : Bk} {ds : List LDr} {y : Mk} (h : y ∈ possL b ds) : y.1 ∈ someL b ds := by
  unfold possL at h
  unfold someL
  rcases List.mem_append.mp h with h | h
  · obtain ⟨d, hd, rfl⟩ := List.mem_map.mp h
    exact List.mem_append_right _ (List.mem_map_of_mem hd)
  · obtain ⟨d, hd, rfl⟩ := List.mem_map.mp h
    exact List.mem_append_left _ (List.mem_map_of_mem hd)
theorem some_poss {b : Bk} {ds : List LDr} {m : Str} (h : m ∈ someL b ds) : ∃ y ∈ possL b ds, y.1 = m := by
  unfold someL at h
  unfold possL
  rcases List.mem_append.mp h with h | h
  · obtain ⟨d, hd, rfl⟩ := List.mem_map.mp h
    exact ⟨_, List.mem_append_right _ (List.mem_map_of_mem hd), rfl⟩
  · obtain ⟨d, hd, rfl⟩ := List.mem_map.mp h
    exact ⟨_, List.mem_append_left _ (List.mem_map_of_mem hd), rfl⟩
theorem step_take {b : Bk} {ds : List LDr} {x : Str} {i : Nat} {m : Str} {o : Option Dr} {r : List Mk} (hne : m ≠ Str.ofString "") (hesc : (⟨#[x.cps.getD i 0]⟩ : Str) ≠ (b.getD (tongueL ds).toNat tg0).1)
    (h : (possL b ds).filter (fun y => y.1 == m) = (m, o) :: r) : stepL b ds x i m = takeL ds i m o := by
  unfold stepL
  rw [if_neg (fun q => hesc q.2), if_neg hne]
  unfold possL at h
  rw [List.filter_append, List.filter_map, List.filter_map] at h
  by_cases hcl : ds ≠ [] ∧ m = (ds.getD (ds.length - 1) ld0).2.2
  · rw [if_pos hcl]
    have hpos : 0 < ds.length := List.length_pos_iff.mpr hcl.1
    rw [lastL_pos hpos] at h
    have : ((ds.getD (ds.length - 1) ld0).2.2 == m) = true := by rw [← hcl.2]; exact beq_self_eq_true _
    have e2 : [ds.getD (ds.length - 1) ld0].filter ((fun y : Mk => y.1 == m) ∘ fun d : LDr => ((d.2.2, none) : Mk)) = [ds.getD (ds.length - 1) ld0] := by
      rw [List.filter_cons_of_pos]
      · rfl
      · exact this
    rw [e2] at h
    have h' : (((ds.getD (ds.length - 1) ld0).2.2, none) : Mk) = (m, o) := (List.cons.inj h).1
    have : o = none := by injection h' with _ q; exact q.symm
    subst this
    rfl
  · rw [if_neg hcl]
    have e2 : (lastL ds).filter ((fun y : Mk => y.1 == m) ∘ fun d : LDr => ((d.2.2, none) : Mk)) = [] := by
      rw [List.filter_eq_nil_iff]
      intro d hd q
      have q : (d.2.2 == m) = true := q
      have q := eq_of_beq q
      exact hcl (last_close (List.mem_map.mpr ⟨d, hd, q⟩))
    rw [e2] at h
    have e3 : ((fun y : Mk => y.1 == m) ∘ fun d : Dr => ((d.1, some d) : Mk)) = fun d : Dr => d.1 == m := rfl
    rw [e3] at h
    cases g : (b.getD (tongueL ds).toNat tg0).2.filter (fun d => d.1 == m) with
    | nil =>
      rw [g] at h
      cases h
    | cons d r' =>
      rw [g] at h
      have h' : ((d.1, some d) : Mk) = (m, o) := (List.cons.inj h).1
      have : o = some d := by injection h' with _ q; exact q.symm
      subst this
      rfl
theorem step_plain {b : Bk} {ds : List LDr} {x : Str} {i : Nat} (hi : i < x.length) (h : fitsP b ds x i = []) : stepL b ds x i (bestL b ds x i) = (plainL b ds x i, ds) := by
  have hf : fitL b ds x i = [] := by
    unfold fitL
    rw [List.filter_eq_nil_iff]
    intro m hm q
    obtain ⟨y, hy, rfl⟩ := some_poss hm
    unfold fitsP at h
    rw [List.filter_eq_nil_iff] at h
    apply h y hy
    rw [stAt_fit (by omega)]
    exact q
  have hb : bestL b ds x i = Str.ofString "" := by unfold bestL; rw [hf, str_empty]; rfl
  rw [hb]
  unfold stepL plainL
  by_cases hesc : (⟨#[x.cps.getD i 0]⟩ : Str) = (b.getD (tongueL ds).toNat tg0).1
  · have h0 : (b.getD (tongueL ds).toNat tg0).1 ≠ Str.ofString "" := fun e => by
      rw [e, str_empty] at hesc
      have : (#[x.cps.getD i 0] : Array Nat) = #[] := congrArg Str.cps hesc
      simp at this
    rw [if_pos ⟨h0, hesc⟩, if_pos hesc]
    by_cases h1 : i + 1 = x.length
    · rw [if_pos h1, if_neg (by omega)]
    · rw [if_neg h1, if_pos (by omega)]
  · rw [if_neg (fun q => hesc q.2), if_pos rfl, if_neg hesc]
end T1
namespace T1
open PySem L2
section
variable (b : Bk) (x : Str)
def cnF : Nat → List LDr → Nat → Nat
  | 0, ds, i => if i = x.length ∧ ds = [] then 1 else 0
  | f + 1, ds, i =>
    if x.length ≤ i then (if i = x.length ∧ ds = [] then 1 else 0)
    else if fitsP b ds x i = [] then (if (plainL b ds x i).2.2.1 = Str.ofString "cut" then 0 else cnF f ds (i + (plainL b ds x i).2.1.toNat))
    else ((fitsP b ds x i).map fun y => cnF f (takeL ds i y.1 y.2).2 (i + y.1.length)).sum
def cn (ds : List LDr) (i : Nat) : Nat := cnF b x (x.length - i) ds i
end
section
variable {b : Bk} {x : Str}
theorem plain_len (b : Bk) (ds : List LDr) (x : Str) (i : Nat) : 1 ≤ (plainL b ds x i).2.1.toNat ∧ (plainL b ds x i).2.1.toNat ≤ 2 ∧ ((plainL b ds x i).2.1.toNat : Int) = (plainL b ds x i).2.1 ∧ (i < x.length → i + (plainL b ds x i).2.1.toNat ≤ x.length) := by
  unfold plainL
  split
  · split
    · exact ⟨(by decide : (1 : Nat) ≤ 2), Nat.le_refl 2, rfl, fun _ => by show i + 2 ≤ _; omega⟩
    · exact ⟨Nat.le_refl 1, (by decide : (1 : Nat) ≤ 2), rfl, fun _ => by show i + 1 ≤ _; omega⟩
  · exact ⟨Nat.le_refl 1, (by decide : (1 : Nat) ≤ 2), rfl, fun _ => by show i + 1 ≤ _; omega⟩
theorem fits_len {ds : List LDr} {i : Nat} {y : Mk} (h : y ∈ fitsP b ds x i) : i + y.1.length ≤ x.length := by
  have := (List.mem_filter.mp h).2
  unfold stAt at this
  rw [Bool.and_eq_true] at this
  exact of_decide_eq_true this.1
theorem poss_sm {ds : List LDr} (hb : ∀ t ∈ b, TgOk b.length t) (hd : LdOk b ds) {y : Mk} (h : y ∈ possL b ds) : Sm y.1 := fitL_sm (x := ⟨#[]⟩) (i := 0) hb hd _ (poss_some h)
theorem take_bk {ds : List LDr} {i : Nat} {y : Mk} (hd : LdBk b ds) (hy : y ∈ possL b ds) : LdBk b (takeL ds i y.1 y.2).2 := by
  obtain ⟨m, o⟩ := y
  cases o with
  | none => exact fun d hd' => hd d (List.dropLast_subset _ hd')
  | some dr =>
    intro d hd'
    rcases List.mem_append.mp hd' with h | h
    · exact hd d h
    · rw [List.mem_singleton.mp h]
      unfold possL at hy
      rcases List.mem_append.mp hy with h | h
      · obtain ⟨_, _, e⟩ := List.mem_map.mp h
        injection e with _ e
        cases e
      · obtain ⟨d', hdd, e⟩ := List.mem_map.mp h
        injection e with _ e
        injection e with e
        subst e
        by_cases hl : (tongueL ds).toNat < b.length
        · exact ⟨_, getD_mem tg0 hl, d', hdd, rfl, rfl⟩
        · have e : b.getD (tongueL ds).toNat tg0 = tg0 := by simp [hl]
          rw [e] at hdd
          cases hdd
theorem cnF_eq (hb : ∀ t ∈ b, TgOk b.length t) : ∀ (f g : Nat) (ds : List LDr) (i : Nat), LdBk b ds → x.length - i ≤ f → x.length - i ≤ g → cnF b x f ds i = cnF b x g ds i := by
  have h0 : ∀ (g : Nat) (ds : List LDr) (i : Nat), x.length ≤ i → cnF b x g ds i = if i = x.length ∧ ds = [] then 1 else 0 := fun g ds i h => by
    cases g with
    | zero => rfl
    | succ g => unfold cnF; rw [if_pos h]
  intro f
  induction f with
  | zero =>
    intro g ds i _ h1 _
    rw [h0 g ds i (by omega)]
    rfl
  | succ f ih =>
    intro g ds i hd h1 h2
    by_cases hi : x.length ≤ i
    · rw [h0 _ ds i hi, h0 _ ds i hi]
    · cases g with
      | zero => omega
      | succ g =>
        unfold cnF
        rw [if_neg hi, if_neg hi]
        obtain ⟨p1, p2, _, _⟩ := plain_len b ds x i
        by_cases hf : fitsP b ds x i = []
        · rw [if_pos hf, if_pos hf]
          split
          · rfl
          · exact ih g ds _ hd (by omega) (by omega)
        · rw [if_neg hf, if_neg hf]
          congr 1
          refine List.map_congr_left fun y hy => ?_
          have hs := poss_sm hb (hd.ok hb) (List.mem_filter.mp hy).1
          have hs1 := hs.1
          refine ih g _ _ ?_ (by omega) (by omega)
          exact take_bk hd (List.mem_filter.mp hy).1
theorem cn_end (ds : List LDr) : cn b x ds x.length = if ds = [] then 1 else 0 := by
  unfold cn
  rw [Nat.sub_self]
  show (if x.length = x.length ∧ ds = [] then 1 else 0) = _
  simp
theorem cn_plain {ds : List LDr} {i : Nat} (hb : ∀ t ∈ b, TgOk b.length t) (hd : LdBk b ds) (hi : i < x.length) (hf : fitsP b ds x i = []) : cn b x ds i = if (plainL b ds x i).2.2.1 = Str.ofString "cut" then 0 else cn b x ds (i + (plainL b ds x i).2.1.toNat) := by
  obtain ⟨p1, p2, _, _⟩ := plain_len b ds x i
  unfold cn
  obtain ⟨f, ef⟩ : ∃ f, x.length - i = f + 1 := ⟨x.length - i - 1, by omega⟩
  rw [ef]
  show (if _ then _ else _) = _
  rw [if_neg (by omega), if_pos hf]
  split
  · rfl
  · exact cnF_eq hb _ _ ds _ hd (by omega) (Nat.le_refl _)
theorem cn_mark {ds : List LDr} {i : Nat} (hb : ∀ t ∈ b, TgOk b.length t) (hd : LdBk b ds) (hi : i < x.length) (hf : fitsP b ds x i ≠ []) : cn b x ds i = ((fitsP b ds x i).map fun y => cn b x (takeL ds i y.1 y.2).2 (i + y.1.length)).sum := by
  unfold cn
  obtain ⟨f, ef⟩ : ∃ f, x.length - i = f + 1 := ⟨x.length - i - 1, by omega⟩
  rw [ef]
  show (if _ then _ else _) = _
  rw [if_neg (by omega), if_neg hf]
  congr 1
  refine List.map_congr_left fun y hy => ?_
  have hs := poss_sm hb (hd.ok hb) (List.mem_filter.mp hy).1
  have hs1 := hs.1
  exact cnF_eq hb _ _ _ _ (take_bk hd (List.mem_filter.mp hy).1) (by omega) (Nat.le_refl _)
theorem sum_pos {l : List Nat} : 0 < l.sum ↔ ∃ n ∈ l, 0 < n := by
  induction l with
  | nil => simp
  | cons a r ih =>
    rw [List.sum_cons]
    constructor
    · intro h
      by_cases g : 0 < a
      · exact ⟨a, List.mem_cons_self, g⟩
      · obtain ⟨n, hn, h'⟩ := ih.mp (by omega)
        exact ⟨n, List.mem_cons_of_mem _ hn, h'⟩
    · rintro ⟨n, hn, h⟩
      rcases List.mem_cons.mp hn with e | hn
      · rw [← e]; omega
      · have := ih.mpr ⟨n, hn, h⟩
        omega
end
end T1
namespace T1
open PySem L2
abbrev Rm := Int × Str
abbrev outR : Rm := (0, Str.ofString "")
def dsR (R : Rm) : List LDr := if R = outR then [] else [((0 : Int), R.1, R.2)]
def topR (ds : List LDr) : Rm := match ds.getLast? with
  | some d => d.2
  | none => outR
theorem sm_ne {b : Bk} {ds : List LDr} (h : LdOk b ds) {d : LDr} (hd : d ∈ ds) : d.2 ≠ outR := fun e => by
  have h1 := (h d hd).2.1
  rw [e] at h1
  exact absurd h1 (by decide +kernel)
theorem last_snoc (ds : List LDr) (d : LDr) : lastL (ds ++ [d]) = [d] := by
  unfold lastL
  rw [List.length_append, List.length_singleton, Nat.add_sub_cancel, List.drop_left]
theorem tongue_snoc (ds : List LDr) (d : LDr) : tongueL (ds ++ [d]) = d.2.1 := by
  unfold tongueL
  rw [List.getLast?_append]
  rfl
theorem top_snoc (ds : List LDr) (d : LDr) : topR (ds ++ [d]) = d.2 := by
  unfold topR
  rw [List.getLast?_append]
  rfl
theorem snoc_of {ds : List LDr} (h : ds ≠ []) : ∃ ds' d, ds = ds' ++ [d] := ⟨ds.dropLast, ds.getLast h, (List.dropLast_concat_getLast h).symm⟩
section
variable {b : Bk} {x : Str}
theorem poss_top {ds : List LDr} (h : LdOk b ds) : possL b ds = possL b (dsR (topR ds)) := by
  by_cases e : ds = []
  · subst e
    show _ = possL b (if outR = outR then [] else _)
    rw [if_pos rfl]
  · obtain ⟨ds', d, rfl⟩ := snoc_of e
    rw [top_snoc]
    unfold dsR
    rw [if_neg (sm_ne h (List.mem_append_right _ List.mem_cons_self))]
    unfold possL
    rw [last_snoc, tongue_snoc]
    rfl
theorem fits_top {ds : List LDr} (h : LdOk b ds) (i : Nat) : fitsP b ds x i = fitsP b (dsR (topR ds)) x i := by
  unfold fitsP
  rw [poss_top h]
theorem tongue_top {ds : List LDr} (h : LdOk b ds) : tongueL ds = tongueL (dsR (topR ds)) := by
  by_cases e : ds = []
  · subst e
    show _ = tongueL (if outR = outR then [] else _)
    rw [if_pos rfl]
  · obtain ⟨ds', d, rfl⟩ := snoc_of e
    rw [top_snoc]
    unfold dsR
    rw [if_neg (sm_ne h (List.mem_append_right _ List.mem_cons_self)), tongue_snoc]
    rfl
theorem plain_top {ds : List LDr} (h : LdOk b ds) (i : Nat) : (plainL b ds x i).2.1 = (plainL b (dsR (topR ds)) x i).2.1 ∧ (plainL b ds x i).2.2.1 = (plainL b (dsR (topR ds)) x i).2.2.1 := by
  unfold plainL
  rw [← tongue_top h]
  split
  · split
    · exact ⟨rfl, rfl⟩
    · exact ⟨rfl, rfl⟩
  · exact ⟨rfl, rfl⟩
end
inductive Sh (b : Bk) (x : Str) : Rm → Nat → Nat → Prop where
  | out : Sh b x outR x.length x.length
  | plain {R : Rm} {i e : Nat} (hi : i < x.length) (hf : fitsP b (dsR R) x i = []) (hc : (plainL b (dsR R) x i).2.2.1 ≠ Str.ofString "cut") (h : Sh b x R (i + (plainL b (dsR R) x i).2.1.toNat) e) : Sh b x R i e
  | close {R : Rm} {i : Nat} {m : Str} (hi : i < x.length) (hy : ((m, none) : Mk) ∈ fitsP b (dsR R) x i) : Sh b x R i (i + m.length)
  | opn {R : Rm} {i k e : Nat} {m : Str} {d : Dr} (hi : i < x.length) (hy : ((m, some d) : Mk) ∈ fitsP b (dsR R) x i) (h1 : Sh b x d.2 (i + m.length) k) (h2 : Sh b x R k e) : Sh b x R i e
def Chain (b : Bk) (x : Str) : List Rm → Nat → Prop
  | [], _ => True
  | R :: rs, i => ∃ e, Sh b x R i e ∧ Chain b x rs e
def rms (ds : List LDr) : List Rm := (ds.map (·.2)).reverse ++ [outR]
theorem rms_snoc (ds : List LDr) (d : LDr) : rms (ds ++ [d]) = d.2 :: rms ds := by
  unfold rms
  rw [List.map_append, List.reverse_append]
  rfl
theorem rms_top {b : Bk} {ds : List LDr} : ∃ rs, rms ds = topR ds :: rs := by
  by_cases e : ds = []
  · subst e; exact ⟨[], rfl⟩
  · obtain ⟨ds', d, rfl⟩ := snoc_of e
    exact ⟨rms ds', by rw [rms_snoc, top_snoc]⟩
section
variable {b : Bk} {x : Str}
theorem close_snoc {ds : List LDr} {m : Str} (h : ((m, none) : Mk) ∈ possL b ds) : ∃ ds' d, ds = ds' ++ [d] ∧ d.2.2 = m := by
  unfold possL at h
  rcases List.mem_append.mp h with h | h
  · obtain ⟨d, hd, e⟩ := List.mem_map.mp h
    injection e with e
    have hne : ds ≠ [] := fun q => by rw [q] at hd; cases hd
    obtain ⟨ds', d', rfl⟩ := snoc_of hne
    rw [last_snoc] at hd
    rw [List.mem_singleton.mp hd] at e
    exact ⟨ds', d', rfl, e⟩
  · obtain ⟨_, _, e⟩ := List.mem_map.mp h
    injection e with _ e
    cases e
theorem sum_map_pos {α : Type} {l : List α} {g : α → Nat} : 0 < (l.map g).sum ↔ ∃ y ∈ l, 0 < g y := by
  rw [sum_pos]
  constructor
  · rintro ⟨n, hn, h⟩
    obtain ⟨y, hy, rfl⟩ := List.mem_map.mp hn
    exact ⟨y, hy, h⟩
  · rintro ⟨y, hy, h⟩
    exact ⟨_, List.mem_map_of_mem hy, h⟩
theorem cn_chain (hb : ∀ t ∈ b, TgOk b.length t) : ∀ (f : Nat) (ds : List LDr) (i : Nat), LdBk b ds → x.length - i = f → i ≤ x.length → 0 < cn b x ds i → Chain b x (rms ds) i := by
  intro f
  induction f using Nat.strongRecOn with
  | ind f ih =>
    intro ds i hd hf hi hc
    have hok := hd.ok hb
    by_cases h0 : i = x.length
    · subst h0
      rw [cn_end] at hc
      have e : ds = [] := by
        by_cases e : ds = []
        · exact e
        · rw [if_neg e] at hc; cases hc
      subst e
      exact ⟨_, .out, trivial⟩
    · have hlt : i < x.length := by omega
      obtain ⟨rs, ers⟩ := rms_top (b := b) (ds := ds)
      by_cases hfit : fitsP b ds x i = []
      · rw [cn_plain hb hd hlt hfit] at hc
        obtain ⟨p1, p2, p3, p4⟩ := plain_len b ds x i
        by_cases hw : (plainL b ds x i).2.2.1 = Str.ofString "cut"
        · rw [if_pos hw] at hc; cases hc
        · rw [if_neg hw] at hc
          have h := ih _ (by have := p4 hlt; omega) ds _ hd rfl (p4 hlt) hc
          rw [ers] at h ⊢
          obtain ⟨e, h1, h2⟩ := h
          obtain ⟨q1, q2⟩ := plain_top (x := x) hok i
          rw [q1] at h1
          rw [q2] at hw
          exact ⟨e, .plain hlt (by rw [← fits_top hok]; exact hfit) hw h1, h2⟩
      · rw [cn_mark hb hd hlt hfit, sum_map_pos] at hc
        obtain ⟨⟨m, o⟩, hy, hpos⟩ := hc
        have hy' := (List.mem_filter.mp hy).1
        have hl := fits_len hy
        have hs := (poss_sm hb hok hy').1
        have hl : i + m.length ≤ x.length := hl
        have hs : 1 ≤ m.length := hs
        have h := ih _ (by omega) _ _ (take_bk (i := i) hd hy') rfl hl hpos
        have hyT : ((m, o) : Mk) ∈ fitsP b (dsR (topR ds)) x i := by rw [← fits_top hok]; exact hy
        cases o with
        | none =>
          obtain ⟨ds', d, rfl, rfl⟩ := close_snoc hy'
          have e : (takeL (ds' ++ [d]) i d.2.2 none).2 = ds' := by show (ds' ++ [d]).dropLast = ds'; simp
          rw [e] at h
          rw [rms_snoc]
          rw [top_snoc] at hyT
          exact ⟨_, .close hlt hyT, h⟩
        | some dr =>
          have e : (takeL ds i m (some dr)).2 = ds ++ [((i : Int), dr.2.1, dr.2.2)] := rfl
          rw [e, rms_snoc, ers] at h
          obtain ⟨k, h1, e', h2, h3⟩ := h
          rw [ers]
          exact ⟨e', .opn hlt hyT h1 h2, h3⟩
theorem sh_cn (hb : ∀ t ∈ b, TgOk b.length t) {R : Rm} {i e : Nat} (h : Sh b x R i e) : e ≤ x.length ∧ i ≤ e ∧ (R = outR → e = x.length ∧ 0 < cn b x [] i) ∧ ∀ ds d, d.2 = R → LdBk b (ds ++ [d]) → 0 < cn b x ds e → 0 < cn b x (ds ++ [d]) i := by
  have bk0 : LdBk b [] := fun d hd => by cases hd
  induction h with
  | out =>
    refine ⟨Nat.le_refl _, Nat.le_refl _, fun _ => ⟨rfl, by rw [cn_end, if_pos rfl]; exact Nat.one_pos⟩, fun ds d e hd _ => absurd e (sm_ne (hd.ok hb) (List.mem_append_right _ List.mem_cons_self))⟩
  | @plain R i e hi hf hc h ih =>
    obtain ⟨a1, a2, a3, a4⟩ := ih
    refine ⟨a1, by omega, fun g => ⟨(a3 g).1, ?_⟩, fun ds d g hd hp => ?_⟩
    · subst g
      have hf : fitsP b [] x i = [] := hf
      have hc : (plainL b [] x i).2.2.1 ≠ Str.ofString "cut" := hc
      rw [cn_plain hb bk0 hi hf, if_neg hc]
      exact (a3 rfl).2
    · have hok := hd.ok hb
      obtain ⟨q1, q2⟩ := plain_top (x := x) hok i
      have ht : topR (ds ++ [d]) = R := by rw [top_snoc, g]
      rw [ht] at q1 q2
      rw [cn_plain hb hd hi (by rw [fits_top hok, ht]; exact hf), if_neg (by rw [q2]; exact hc), q1]
      exact a4 ds d g hd hp
  | @close R i m hi hy =>
    have hl : i + m.length ≤ x.length := fits_len hy
    refine ⟨hl, by omega, fun g => ?_, fun ds d g hd hp => ?_⟩
    · subst g
      have hy : ((m, none) : Mk) ∈ fitsP b [] x i := hy
      obtain ⟨ds', d, e, _⟩ := close_snoc (List.mem_filter.mp hy).1
      exact absurd e (by simp)
    · have hok := hd.ok hb
      have ht : topR (ds ++ [d]) = R := by rw [top_snoc, g]
      have hy2 : ((m, none) : Mk) ∈ fitsP b (ds ++ [d]) x i := by rw [fits_top hok, ht]; exact hy
      rw [cn_mark hb hd hi (fun q => by rw [q] at hy2; cases hy2), sum_map_pos]
      refine ⟨_, hy2, ?_⟩
      have e : (takeL (ds ++ [d]) i m none).2 = ds := by show (ds ++ [d]).dropLast = ds; simp
      show 0 < cn b x (takeL (ds ++ [d]) i m none).2 _
      rw [e]
      exact hp
  | @opn R i k e m dr hi hy h1 h2 ih1 ih2 =>
    obtain ⟨a1, a2, a3, a4⟩ := ih1
    obtain ⟨c1, c2, c3, c4⟩ := ih2
    refine ⟨c1, by omega, fun g => ⟨(c3 g).1, ?_⟩, fun ds d g hd hp => ?_⟩
    · subst g
      have hy : ((m, some dr) : Mk) ∈ fitsP b [] x i := hy
      rw [cn_mark hb bk0 hi (fun q => by rw [q] at hy; cases hy), sum_map_pos]
      exact ⟨_, hy, a4 [] ((i : Int), dr.2.1, dr.2.2) rfl (take_bk (i := i) bk0 (List.mem_filter.mp hy).1) (c3 rfl).2⟩
    · have hok := hd.ok hb
      have ht : topR (ds ++ [d]) = R := by rw [top_snoc, g]
      have hy2 : ((m, some dr) : Mk) ∈ fitsP b (ds ++ [d]) x i := by rw [fits_top hok, ht]; exact hy
      rw [cn_mark hb hd hi (fun q => by rw [q] at hy2; cases hy2), sum_map_pos]
      exact ⟨_, hy2, a4 (ds ++ [d]) ((i : Int), dr.2.1, dr.2.2) rfl (take_bk (i := i) hd (List.mem_filter.mp hy2).1) (c4 ds d g hd hp)⟩
theorem chain_cn (hb : ∀ t ∈ b, TgOk b.length t) : ∀ (n : Nat) (ds : List LDr) (i : Nat), ds.length = n → LdBk b ds → Chain b x (rms ds) i → 0 < cn b x ds i
  | 0, ds, i, hn, hd, h => by
    have e : ds = [] := List.length_eq_zero_iff.mp hn
    subst e
    obtain ⟨e, h1, _⟩ := h
    exact ((sh_cn hb h1).2.2.1 rfl).2
  | n + 1, ds, i, hn, hd, h => by
    obtain ⟨ds', d, rfl⟩ := snoc_of (ds := ds) (fun q => by rw [q] at hn; cases hn)
    rw [rms_snoc] at h
    obtain ⟨e, h1, h2⟩ := h
    have hd' : LdBk b ds' := fun d' h' => hd d' (List.mem_append_left _ h')
    exact (sh_cn hb h1).2.2.2 ds' d rfl hd (chain_cn hb n ds' e (by simpa using hn) hd' h2)
theorem cn_iff (hb : ∀ t ∈ b, TgOk b.length t) {ds : List LDr} {i : Nat} (hd : LdBk b ds) (hi : i ≤ x.length) : 0 < cn b x ds i ↔ Chain b x (rms ds) i :=
  ⟨cn_chain hb _ ds i hd rfl hi, chain_cn hb _ ds i rfl hd⟩
end
end T1
namespace T1
open PySem L2
inductive Wk (b : Bk) (x : Str) : List LDr → Nat → List Stp → Prop where
  | done : Wk b x [] x.length []
  | plain {ds : List LDr} {i : Nat} {ss : List Stp} (hi : i < x.length) (hf : fitsP b ds x i = []) (hc : (plainL b ds x i).2.2.1 ≠ Str.ofString "cut") (h : Wk b x ds (i + (plainL b ds x i).2.1.toNat) ss) : Wk b x ds i (plainL b ds x i :: ss)
  | mark {ds : List LDr} {i : Nat} {ss : List Stp} (y : Mk) (hi : i < x.length) (hy : y ∈ fitsP b ds x i) (h : Wk b x (takeL ds i y.1 y.2).2 (i + y.1.length) ss) : Wk b x ds i ((takeL ds i y.1 y.2).1 :: ss)
inductive Pth (b : Bk) (x : Str) : List Stp → List LDr → Nat → Prop where
  | nil : Pth b x [] [] 0
  | plain {ss : List Stp} {ds : List LDr} {i : Nat} (h : Pth b x ss ds i) (hi : i < x.length) (hf : fitsP b ds x i = []) (hc : (plainL b ds x i).2.2.1 ≠ Str.ofString "cut") : Pth b x (ss ++ [plainL b ds x i]) ds (i + (plainL b ds x i).2.1.toNat)
  | mark {ss : List Stp} {ds : List LDr} {i : Nat} (y : Mk) (h : Pth b x ss ds i) (hi : i < x.length) (hy : y ∈ fitsP b ds x i) : Pth b x (ss ++ [(takeL ds i y.1 y.2).1]) (takeL ds i y.1 y.2).2 (i + y.1.length)
section
variable {b : Bk} {x : Str}
theorem pth_wk {ss : List Stp} {ds : List LDr} {i : Nat} (h : Pth b x ss ds i) : ∀ {ss' : List Stp}, Wk b x ds i ss' → Wk b x [] 0 (ss ++ ss') := by
  induction h with
  | nil => intro ss' h; exact h
  | plain h hi hf hc ih =>
    intro ss' h'
    rw [List.append_assoc]
    exact ih (.plain hi hf hc h')
  | mark y h hi hy ih =>
    intro ss' h'
    rw [List.append_assoc]
    exact ih (.mark y hi hy h')
theorem pth_ok {ss : List Stp} {ds : List LDr} {i : Nat} (h : Pth b x ss ds i) : LdBk b ds ∧ i ≤ x.length ∧ ds.length ≤ ss.length := by
  induction h with
  | nil => exact ⟨fun d hd => (by cases hd), Nat.zero_le _, Nat.le_refl _⟩
  | plain h hi hf hc ih =>
    obtain ⟨h1, h2, h3⟩ := ih
    exact ⟨h1, (plain_len b _ x _).2.2.2 hi, by rw [List.length_append]; omega⟩
  | mark y h hi hy ih =>
    obtain ⟨h1, h2, h3⟩ := ih
    refine ⟨take_bk h1 (List.mem_filter.mp hy).1, fits_len hy, ?_⟩
    rw [List.length_append, List.length_singleton]
    obtain ⟨m, o⟩ := y
    cases o with
    | none => show (List.dropLast _).length ≤ _; rw [List.length_dropLast]; omega
    | some d => show (_ ++ [_] : List LDr).length ≤ _; rw [List.length_append, List.length_singleton]; omega
theorem pth_len (hb : ∀ t ∈ b, TgOk b.length t) {ss : List Stp} {ds : List LDr} {i : Nat} (h : Pth b x ss ds i) : ss.length ≤ i := by
  induction h with
  | nil => exact Nat.le_refl _
  | @plain ss ds i h hi hf hc ih =>
    have := (plain_len b ds x i).1
    rw [List.length_append, List.length_singleton]
    omega
  | mark y h hi hy ih =>
    have := (poss_sm hb ((pth_ok h).1.ok hb) (List.mem_filter.mp hy).1).1
    rw [List.length_append, List.length_singleton]
    omega
def hop (b : Bk) (x : Str) (ds : List LDr) (i : Nat) : List Mk := (fitsP b ds x i).filter fun y => decide (0 < cn b x (takeL ds i y.1 y.2).2 (i + y.1.length))
structure WSt where
  at_ : Nat
  ds : List LDr
  ss : List Stp
  ts : List Nat
def wrS (b : Bk) (x : Str) (turn : Option Nat) (s : WSt) : WSt :=
  if s.at_ < x.length then
    let h := hop b x s.ds s.at_
    let ts := if 1 < h.length then s.ts ++ [s.at_] else s.ts
    if h = [] then ⟨s.at_ + (plainL b s.ds x s.at_).2.1.toNat, s.ds, s.ss ++ [plainL b s.ds x s.at_], ts⟩
    else let y := h.getD (if some s.at_ = turn then 1 else 0) mk0
      ⟨s.at_ + y.1.length, (takeL s.ds s.at_ y.1 y.2).2, s.ss ++ [(takeL s.ds s.at_ y.1 y.2).1], ts⟩
  else s
def wrF (b : Bk) (x : Str) (turn : Option Nat) : Nat → WSt
  | 0 => ⟨0, [], [], []⟩
  | k + 1 => wrS b x turn (wrF b x turn k)
theorem sum_filter {α : Type} (g : α → Nat) : ∀ l : List α, (l.map g).sum = ((l.filter fun y => decide (0 < g y)).map g).sum
  | [] => rfl
  | a :: r => by
    rw [List.map_cons, List.sum_cons, sum_filter g r]
    by_cases h : 0 < g a
    · rw [List.filter_cons_of_pos (by simpa using h), List.map_cons, List.sum_cons]
    · rw [List.filter_cons_of_neg (by simpa using h)]
      omega
theorem cn_hop {ds : List LDr} {i : Nat} (hb : ∀ t ∈ b, TgOk b.length t) (hd : LdBk b ds) (hi : i < x.length) (hf : fitsP b ds x i ≠ []) : cn b x ds i = ((hop b x ds i).map fun y => cn b x (takeL ds i y.1 y.2).2 (i + y.1.length)).sum := by
  rw [cn_mark hb hd hi hf, sum_filter]
  rfl
theorem hop_nil {ds : List LDr} {i : Nat} (hb : ∀ t ∈ b, TgOk b.length t) (hd : LdBk b ds) (hi : i < x.length) (hp : 0 < cn b x ds i) : hop b x ds i = [] ↔ fitsP b ds x i = [] := by
  constructor
  · intro h
    by_cases hf : fitsP b ds x i = []
    · exact hf
    · rw [cn_hop hb hd hi hf, h] at hp
      cases hp
  · intro h
    unfold hop
    rw [h]
    rfl
theorem hop_mem {ds : List LDr} {i : Nat} {y : Mk} (h : y ∈ hop b x ds i) : y ∈ fitsP b ds x i ∧ 0 < cn b x (takeL ds i y.1 y.2).2 (i + y.1.length) := ⟨(List.mem_filter.mp h).1, by simpa using (List.mem_filter.mp h).2⟩
structure WOk (b : Bk) (x : Str) (s : WSt) : Prop where
  pth : Pth b x s.ss s.ds s.at_
  pos : 0 < cn b x s.ds s.at_
  one : s.ts = [] → cn b x [] 0 = cn b x s.ds s.at_
  two : s.ts ≠ [] → 2 ≤ cn b x [] 0
theorem sum_two {l : List Nat} (h : 2 ≤ l.length) (hp : ∀ n ∈ l, 0 < n) : 2 ≤ l.sum := by
  match l, h with
  | a :: c :: r, _ =>
    have h1 := hp a List.mem_cons_self
    have h2 := hp c (List.mem_cons_of_mem _ List.mem_cons_self)
    rw [List.sum_cons, List.sum_cons]
    omega
theorem le_sumF {l : List Nat} {n : Nat} (h : n ∈ l) : n ≤ l.sum := by
  induction l with
  | nil => cases h
  | cons a r ih =>
    rw [List.sum_cons]
    rcases List.mem_cons.mp h with e | h
    · omega
    · have := ih h; omega
theorem cn_le {ss : List Stp} {ds : List LDr} {i : Nat} (hb : ∀ t ∈ b, TgOk b.length t) (h : Pth b x ss ds i) : cn b x ds i ≤ cn b x [] 0 := by
  induction h with
  | nil => exact Nat.le_refl _
  | plain h hi hf hc ih =>
    rw [cn_plain hb (pth_ok h).1 hi hf, if_neg hc] at ih
    exact ih
  | mark y h hi hy ih =>
    refine Nat.le_trans ?_ ih
    rw [cn_mark hb (pth_ok h).1 hi (fun q => by rw [q] at hy; cases hy)]
    exact le_sumF (List.mem_map_of_mem (f := fun y => cn b x (takeL _ _ y.1 y.2).2 (_ + y.1.length)) hy)
theorem wrS_ok (hb : ∀ t ∈ b, TgOk b.length t) {turn : Option Nat} {s : WSt} (h : WOk b x s) (ht : some s.at_ = turn → 1 < (hop b x s.ds s.at_).length) : WOk b x (wrS b x turn s) := by
  unfold wrS
  by_cases hi : s.at_ < x.length
  · rw [if_pos hi]
    obtain ⟨hd, _⟩ := pth_ok h.pth
    dsimp only
    by_cases hh : hop b x s.ds s.at_ = []
    · have hf := (hop_nil hb hd hi h.pos).mp hh
      rw [if_pos hh, hh]
      have hp := h.pos
      have ec := cn_plain hb hd hi hf
      have hc : (plainL b s.ds x s.at_).2.2.1 ≠ Str.ofString "cut" := fun q => by rw [ec, if_pos q] at hp; cases hp
      rw [if_neg hc] at ec
      exact ⟨.plain h.pth hi hf hc, by rw [← ec]; exact hp, fun g => by rw [← ec]; exact h.one g, h.two⟩
    · rw [if_neg hh]
      have hf : fitsP b s.ds x s.at_ ≠ [] := fun q => hh ((hop_nil hb hd hi h.pos).mpr q)
      obtain ⟨j, hj⟩ : ∃ j, j = if some s.at_ = turn then 1 else 0 := ⟨_, rfl⟩
      rw [← hj]
      have hjl : j < (hop b x s.ds s.at_).length := by
        rw [hj]
        split
        · rename_i g; exact ht g
        · exact List.length_pos_iff.mpr hh
      have hy : (hop b x s.ds s.at_).getD j mk0 ∈ hop b x s.ds s.at_ := by rw [List.getD_eq_getElem?_getD, List.getElem?_eq_getElem hjl]; exact List.getElem_mem hjl
      obtain ⟨hy1, hy2⟩ := hop_mem hy
      refine ⟨.mark _ h.pth hi hy1, hy2, fun g => ?_, fun g => ?_⟩
      · by_cases hl : 1 < (hop b x s.ds s.at_).length
        · rw [if_pos hl] at g
          exact absurd g (by simp)
        · rw [if_neg hl] at g
          rw [h.one g, cn_hop hb hd hi hf]
          obtain ⟨y, e⟩ : ∃ y, hop b x s.ds s.at_ = [y] := List.length_eq_one_iff.mp (by omega)
          have j0 : j = 0 := by rw [e] at hjl; simpa using hjl
          rw [e, j0]
          simp
      · by_cases hl : 1 < (hop b x s.ds s.at_).length
        · refine Nat.le_trans ?_ (cn_le hb h.pth)
          rw [cn_hop hb hd hi hf]
          exact sum_two (by rw [List.length_map]; exact hl) fun n hn => by
            obtain ⟨y, hy, rfl⟩ := List.mem_map.mp hn
            exact (hop_mem hy).2
        · rw [if_neg hl] at g
          exact h.two g
  · rw [if_neg hi]
    exact h
theorem wr_start (hp : 0 < cn b x [] 0) : WOk b x ⟨0, [], [], []⟩ := ⟨.nil, hp, fun _ => rfl, fun h => absurd rfl h⟩
theorem wrF_none (hb : ∀ t ∈ b, TgOk b.length t) (hp : 0 < cn b x [] 0) : ∀ k, WOk b x (wrF b x none k)
  | 0 => wr_start hp
  | k + 1 => wrS_ok hb (wrF_none hb hp k) (fun h => by cases h)
theorem wrS_go {turn : Option Nat} {s : WSt} (hb : ∀ t ∈ b, TgOk b.length t) (h : WOk b x s) (ht : some s.at_ = turn → 1 < (hop b x s.ds s.at_).length) (hi : s.at_ < x.length) : s.at_ < (wrS b x turn s).at_ := by
  unfold wrS
  rw [if_pos hi]
  dsimp only
  obtain ⟨hd, _⟩ := pth_ok h.pth
  by_cases hh : hop b x s.ds s.at_ = []
  · rw [if_pos hh]
    have := (plain_len b s.ds x s.at_).1
    show s.at_ < s.at_ + _
    omega
  · rw [if_neg hh]
    have hjl : (if some s.at_ = turn then 1 else 0) < (hop b x s.ds s.at_).length := by
      split
      · rename_i g; exact ht g
      · exact List.length_pos_iff.mpr hh
    have hy : (hop b x s.ds s.at_).getD (if some s.at_ = turn then 1 else 0) mk0 ∈ hop b x s.ds s.at_ := by rw [List.getD_eq_getElem?_getD, List.getElem?_eq_getElem hjl]; exact List.getElem_mem hjl
    have := (poss_sm hb (hd.ok hb) (List.mem_filter.mp (hop_mem hy).1).1).1
    show s.at_ < s.at_ + _
    omega
theorem w_end {s : WSt} (h : WOk b x s) (he : s.at_ = x.length) : s.ds = [] ∧ Wk b x [] 0 s.ss := by
  have hp := h.pos
  rw [he, cn_end] at hp
  have e : s.ds = [] := by
    by_cases e : s.ds = []
    · exact e
    · rw [if_neg e] at hp; cases hp
  refine ⟨e, ?_⟩
  have hpt := h.pth
  rw [he, e] at hpt
  have := pth_wk hpt .done
  rw [List.append_nil] at this
  exact this
theorem ts_mono {turn : Option Nat} (s : WSt) : s.ts <+: (wrS b x turn s).ts := by
  unfold wrS
  by_cases hi : s.at_ < x.length
  · rw [if_pos hi]
    dsimp only
    have : s.ts <+: (if 1 < (hop b x s.ds s.at_).length then s.ts ++ [s.at_] else s.ts) := by
      split
      · exact List.prefix_append _ _
      · exact List.prefix_refl _
    split <;> exact this
  · rw [if_neg hi]
    exact List.prefix_refl _
theorem ss_mono {turn : Option Nat} (s : WSt) : s.ss <+: (wrS b x turn s).ss := by
  unfold wrS
  by_cases hi : s.at_ < x.length
  · rw [if_pos hi]
    dsimp only
    split <;> exact List.prefix_append _ _
  · rw [if_neg hi]
    exact List.prefix_refl _
theorem ss_monoF {turn : Option Nat} (k j : Nat) : (wrF b x turn k).ss <+: (wrF b x turn (k + j)).ss := by
  induction j with
  | zero => exact List.prefix_refl _
  | succ j ih => exact ih.trans (ss_mono _)
theorem first_turn {p : Nat} : ∀ {k : Nat}, (wrF b x none k).ts.head? = some p → ∃ j, j < k ∧ (wrF b x none j).ts = [] ∧ (wrF b x none j).at_ = p ∧ p < x.length ∧ 1 < (hop b x (wrF b x none j).ds p).length
  | 0, h => by cases h
  | k + 1, h => by
    by_cases e : (wrF b x none k).ts = []
    · have h : (wrS b x none (wrF b x none k)).ts.head? = some p := h
      unfold wrS at h
      by_cases hi : (wrF b x none k).at_ < x.length
      · rw [if_pos hi] at h
        dsimp only at h
        by_cases hl : 1 < (hop b x (wrF b x none k).ds (wrF b x none k).at_).length
        · have hp : (wrF b x none k).at_ = p := by
            rw [if_pos hl, e] at h
            split at h <;> simpa using h
          exact ⟨k, Nat.lt_succ_self _, e, hp, by rw [← hp]; exact hi, by rw [← hp]; exact hl⟩
        · rw [if_neg hl, e] at h
          split at h <;> cases h
      · rw [if_neg hi, e] at h
        cases h
    · have h' : (wrF b x none k).ts.head? = some p := by
        obtain ⟨r, hr⟩ := ts_mono (b := b) (x := x) (turn := none) (wrF b x none k)
        have h : (wrS b x none (wrF b x none k)).ts.head? = some p := h
        rw [← hr] at h
        cases q : (wrF b x none k).ts with
        | nil => exact absurd q e
        | cons a r' => rw [q] at h; exact h
      obtain ⟨j, hj, r⟩ := first_turn h'
      exact ⟨j, Nat.lt_succ_of_lt hj, r⟩
theorem at_mono (hb : ∀ t ∈ b, TgOk b.length t) (hp : 0 < cn b x [] 0) {j k : Nat} (hjk : j < k) (hi : (wrF b x none j).at_ < x.length) : (wrF b x none j).at_ < (wrF b x none k).at_ := by
  induction k with
  | zero => omega
  | succ k ih =>
    have hs : (wrF b x none k).at_ ≤ (wrF b x none (k + 1)).at_ := by
      by_cases h : (wrF b x none k).at_ < x.length
      · exact Nat.le_of_lt (wrS_go hb (wrF_none hb hp k) (fun q => by cases q) h)
      · show _ ≤ (wrS b x none (wrF b x none k)).at_
        unfold wrS
        rw [if_neg h]
        exact Nat.le_refl _
    by_cases e : j = k
    · subst e
      exact wrS_go hb (wrF_none hb hp j) (fun q => by cases q) hi
    · exact Nat.lt_of_lt_of_le (ih (by omega)) hs
theorem same_way (hb : ∀ t ∈ b, TgOk b.length t) (hp : 0 < cn b x [] 0) {j p : Nat} (hj : (wrF b x none j).at_ = p) (hpl : p < x.length) : ∀ k, k ≤ j → wrF b x (some p) k = wrF b x none k
  | 0, _ => rfl
  | k + 1, hk => by
    have ih := same_way hb hp hj hpl k (by omega)
    show wrS b x (some p) (wrF b x (some p) k) = wrS b x none (wrF b x none k)
    rw [ih]
    have hlt : (wrF b x none k).at_ ≠ p := by
      by_cases h : (wrF b x none k).at_ < x.length
      · have := at_mono hb hp (show k < j by omega) h
        omega
      · omega
    unfold wrS
    have e1 : (some (wrF b x none k).at_ = some p) = False := by simp [hlt]
    have e2 : (some (wrF b x none k).at_ = none) = False := by simp
    simp only [e1, e2, if_false]
theorem wrF_some (hb : ∀ t ∈ b, TgOk b.length t) (hp : 0 < cn b x [] 0) {j p : Nat} (hj : (wrF b x none j).at_ = p) (hpl : p < x.length) (hl : 1 < (hop b x (wrF b x none j).ds p).length) : ∀ k, WOk b x (wrF b x (some p) k) ∧ (j < k → p < (wrF b x (some p) k).at_)
  | 0 => ⟨wr_start hp, fun h => by omega⟩
  | k + 1 => by
    obtain ⟨ih1, ih2⟩ := wrF_some hb hp hj hpl hl k
    have ht : some (wrF b x (some p) k).at_ = some p → 1 < (hop b x (wrF b x (some p) k).ds (wrF b x (some p) k).at_).length := fun q => by
      have hq : (wrF b x (some p) k).at_ = p := by simpa using q
      by_cases hk : k ≤ j
      · have e := same_way hb hp hj hpl k hk
        rw [e] at hq ⊢
        have : k = j := by
          by_cases g : k = j
          · exact g
          · have := at_mono hb hp (show k < j by omega) (by rw [hq]; exact hpl)
            omega
        subst this
        rw [hj]
        exact hl
      · have := ih2 (by omega)
        omega
    refine ⟨wrS_ok hb ih1 ht, fun hk => ?_⟩
    show p < (wrS b x (some p) (wrF b x (some p) k)).at_
    by_cases hi : (wrF b x (some p) k).at_ < x.length
    · have h1 := wrS_go hb ih1 ht hi
      by_cases g : k = j
      · subst g
        have e := same_way hb hp hj hpl k (Nat.le_refl _)
        have : (wrF b x (some p) k).at_ = p := by rw [e]; exact hj
        omega
      · have := ih2 (by omega)
        omega
    · unfold wrS
      rw [if_neg hi]
      omega
end
end T1
namespace T1
open PySem L2
section
variable {b : Bk} {x : Str}
theorem no_behindF (hb : BkOk b) {d : LDr} (hd : ∃ t ∈ b, ∃ dr ∈ t.2, d.2.1 = dr.2.1 ∧ d.2.2 = dr.2.2) : d.2.2 ∉ opensOf (b.getD d.2.1.toNat tg0).2 := by
  intro hm
  obtain ⟨hb1, hb6, htok, hbB⟩ := id hb
  obtain ⟨t, ht, dr, hdr, e1, e2⟩ := hd
  have hi := ((htok t ht).2.2 dr hdr).2.1
  unfold bookB at hbB
  simp only [Bool.and_eq_true, Bool.not_eq_true'] at hbB
  have h3 := List.any_eq_false.mp hbB.2 d.2.1.toNat (List.mem_range.mpr (by omega))
  apply h3
  unfold behindB
  obtain ⟨d', hd1, e⟩ := List.mem_map.mp hm
  rw [List.any_eq_true]
  refine ⟨d', hd1, ?_⟩
  rw [List.any_eq_true]
  refine ⟨d.2.2, ?_, ?_⟩
  · unfold closesB
    rw [List.mem_flatMap]
    refine ⟨t, ht, ?_⟩
    unfold closesT
    rw [List.mem_filterMap]
    refine ⟨dr, hdr, ?_⟩
    rw [if_pos (by omega), e2]
  · rw [e, stAt_fit (Nat.zero_le _)]
    unfold fitAt
    rw [show cutS d.2.2 (some ((0 : Nat) : Int)) (some (((0 : Nat) : Int) + (d.2.2.length : Int))) = d.2.2 from ?_]
    · simp
    · rw [cut_extract (by omega)]
      cases d.2.2
      simp [Str.length]
theorem poss_nd (hb : BkOk b) {ds : List LDr} (hd : LdBk b ds) : ((possL b ds).map (·.1)).Nodup := by
  have hnd : (opensOf (b.getD (tongueL ds).toNat tg0).2).Nodup := by
    have hbB := hb.2.2.2
    unfold bookB at hbB
    simp only [Bool.and_eq_true, Bool.not_eq_true'] at hbB
    by_cases hl : (tongueL ds).toNat < b.length
    · exact of_decide_eq_true (List.all_eq_true.mp hbB.1.1 _ (getD_mem tg0 hl))
    · have e : b.getD (tongueL ds).toNat tg0 = tg0 := by simp [hl]
      rw [e]
      exact .nil
  unfold possL
  rw [List.map_append, List.map_map, List.map_map]
  by_cases e : ds = []
  · subst e
    exact hnd
  · obtain ⟨ds', d, rfl⟩ := snoc_of e
    rw [last_snoc]
    have h1 := no_behindF hb (hd d (List.mem_append_right _ List.mem_cons_self))
    rw [← tongue_snoc ds' d] at h1
    exact List.nodup_cons.mpr ⟨h1, hnd⟩
theorem hop_two (hb : BkOk b) {ds : List LDr} {i : Nat} (hd : LdBk b ds) (hi : i ≤ x.length) (hl : 1 < (hop b x ds i).length) : ((hop b x ds i).getD 0 mk0).1.length ≠ ((hop b x ds i).getD 1 mk0).1.length := by
  have hsub : (hop b x ds i).map (·.1) |>.Nodup := by
    refine List.Nodup.sublist ?_ (poss_nd hb hd)
    exact (List.filter_sublist.trans List.filter_sublist).map _
  intro e
  match h : hop b x ds i, hl with
  | y0 :: y1 :: r, _ =>
    rw [h] at e hsub
    have e : y0.1.length = y1.1.length := e
    have h0 : y0 ∈ fitsP b ds x i := (hop_mem (by rw [h]; exact List.mem_cons_self)).1
    have h1 : y1 ∈ fitsP b ds x i := (hop_mem (by rw [h]; exact List.mem_cons_of_mem _ List.mem_cons_self)).1
    have f0 := (List.mem_filter.mp h0).2
    have f1 := (List.mem_filter.mp h1).2
    rw [stAt_fit hi] at f0 f1
    have := fit_eq f0 f1 e
    rw [List.map_cons, List.map_cons, List.nodup_cons] at hsub
    exact hsub.1 (by rw [this]; exact List.mem_cons_self)
theorem ways_ne (hb : BkOk b) (hp : 0 < cn b x [] 0) {p k1 k2 : Nat} (ht : (wrF b x none k1).ts.head? = some p) (h2 : (wrF b x (some p) k2).at_ = x.length) : (wrF b x none k1).ss ≠ (wrF b x (some p) k2).ss := by
  have htok := hb.2.2.1
  obtain ⟨j, hj, _, hat, hpl, hl⟩ := first_turn ht
  have es := same_way htok hp hat hpl j (Nat.le_refl _)
  have hk2 : j < k2 := by
    rcases Nat.lt_or_ge j k2 with g | g
    · exact g
    · exfalso
      have e := same_way htok hp hat hpl k2 g
      rw [e] at h2
      by_cases q : k2 = j
      · subst q; omega
      · have hm := at_mono htok hp (show k2 < j by omega)
        have : (wrF b x none j).at_ ≤ x.length := (pth_ok (wrF_none htok hp j).pth).2.1
        have h3 : (wrF b x none k2).at_ ≤ (wrF b x none j).at_ := by
          by_cases g2 : (wrF b x none k2).at_ < x.length
          · exact Nat.le_of_lt (hm g2)
          · have hstay : ∀ n, (wrF b x none (k2 + n)).at_ = (wrF b x none k2).at_ := fun n => by
              induction n with
              | zero => rfl
              | succ n ih =>
                show (wrS b x none (wrF b x none (k2 + n))).at_ = _
                unfold wrS
                rw [if_neg (by rw [ih]; exact g2), ih]
            have := hstay (j - k2)
            rw [show k2 + (j - k2) = j by omega] at this
            omega
        omega
  intro heq
  have hd := (pth_ok (wrF_none htok hp j).pth).1
  have hne : hop b x (wrF b x none j).ds p ≠ [] := fun q => by rw [q] at hl; cases hl
  have s1 : (wrF b x none (j + 1)).ss = (wrF b x none j).ss ++ [(takeL (wrF b x none j).ds p ((hop b x (wrF b x none j).ds p).getD 0 mk0).1 ((hop b x (wrF b x none j).ds p).getD 0 mk0).2).1] := by
    show (wrS b x none (wrF b x none j)).ss = _
    unfold wrS
    rw [hat, if_pos hpl]
    dsimp only
    rw [if_neg hne, if_neg (by simp)]
  have s2 : (wrF b x (some p) (j + 1)).ss = (wrF b x none j).ss ++ [(takeL (wrF b x none j).ds p ((hop b x (wrF b x none j).ds p).getD 1 mk0).1 ((hop b x (wrF b x none j).ds p).getD 1 mk0).2).1] := by
    show (wrS b x (some p) (wrF b x (some p) j)).ss = _
    rw [es]
    unfold wrS
    rw [hat, if_pos hpl]
    dsimp only
    rw [if_neg hne, if_pos rfl]
  have p1 := ss_monoF (b := b) (x := x) (turn := none) (j + 1) (k1 - (j + 1))
  have p2 := ss_monoF (b := b) (x := x) (turn := some p) (j + 1) (k2 - (j + 1))
  rw [show j + 1 + (k1 - (j + 1)) = k1 by omega, s1] at p1
  rw [show j + 1 + (k2 - (j + 1)) = k2 by omega, s2, ← heq] at p2
  have e := (List.prefix_of_prefix_length_le p1 p2 (by simp)).eq_of_length (by simp)
  have e := List.append_cancel_left e
  injection e with e
  have el : ∀ (y : Mk), (takeL (wrF b x none j).ds p y.1 y.2).1.2.1 = (y.1.length : Int) := fun y => by
    obtain ⟨m, o⟩ := y
    cases o <;> rfl
  have e2 := congrArg (fun s : Stp => s.2.1) e
  rw [el, el] at e2
  exact hop_two hb hd (Nat.le_of_lt hpl) hl (by omega)
end
end T1
namespace T1
open PySem L2
section
variable {b : Bk} {x : Str}
theorem filt_one {l : List Mk} (hn : (l.map (·.1)).Nodup) {y : Mk} (hy : y ∈ l) : l.filter (fun z => z.1 == y.1) = [y] := by
  induction l with
  | nil => cases hy
  | cons a r ih =>
    rw [List.map_cons, List.nodup_cons] at hn
    rcases List.mem_cons.mp hy with e | h
    · subst e
      rw [List.filter_cons_of_pos (by simp)]
      have : r.filter (fun z => z.1 == y.1) = [] := by
        rw [List.filter_eq_nil_iff]
        intro z hz q
        exact hn.1 (by rw [← eq_of_beq q]; exact List.mem_map_of_mem hz)
      rw [this]
    · rw [List.filter_cons_of_neg (fun q => hn.1 (by rw [eq_of_beq q]; exact List.mem_map_of_mem h))]
      exact ih hn.2 h
theorem step_fit (hb : BkOk b) {ds : List LDr} {i : Nat} (hd : LdBk b ds) (hi : i < x.length) {y : Mk} (hy : y ∈ fitsP b ds x i) : stepL b ds x i y.1 = takeL ds i y.1 y.2 := by
  have htok := hb.2.2.1
  have hyp := (List.mem_filter.mp hy).1
  have hs := poss_sm htok (hd.ok htok) hyp
  have hf := (List.mem_filter.mp hy).2
  rw [stAt_fit (Nat.le_of_lt hi)] at hf
  have hesc : (⟨#[x.cps.getD i 0]⟩ : Str) ≠ (b.getD (tongueL ds).toNat tg0).1 := by
    have hc := fit_first (Nat.le_of_lt hi) hf hs.1
    by_cases hl : (tongueL ds).toNat < b.length
    · exact esc_free hb (getD_mem tg0 hl) (some_marks hd (poss_some hyp)) hc
    · have e : b.getD (tongueL ds).toNat tg0 = tg0 := by simp [hl]
      rw [e]
      intro q
      have : (#[x.cps.getD i 0] : Array Nat).size = 0 := by rw [show (#[x.cps.getD i 0] : Array Nat) = (⟨#[x.cps.getD i 0]⟩ : Str).cps from rfl, q]; rfl
      cases this
  have hne : y.1 ≠ Str.ofString "" := fun q => by
    have := hs.1
    rw [q] at this
    exact absurd this (by decide +kernel)
  exact step_take (o := y.2) (r := []) hne hesc (filt_one (poss_nd hb hd) hyp)
theorem fits_nil {ds : List LDr} {i : Nat} (hi : i ≤ x.length) : fitsP b ds x i = [] ↔ fitL b ds x i = [] := by
  constructor
  · intro h
    unfold fitL
    rw [List.filter_eq_nil_iff]
    intro m hm q
    obtain ⟨y, hy, rfl⟩ := some_poss hm
    unfold fitsP at h
    rw [List.filter_eq_nil_iff] at h
    apply h y hy
    rw [stAt_fit hi]
    exact q
  · intro h
    unfold fitsP
    rw [List.filter_eq_nil_iff]
    intro y hy q
    unfold fitL at h
    rw [List.filter_eq_nil_iff] at h
    apply h y.1 (poss_some hy)
    rw [← stAt_fit hi]
    exact q
theorem step_none {ds : List LDr} {i : Nat} (hi : i < x.length) (h : fitsP b ds x i = []) : stepL b ds x i (Str.ofString "") = (plainL b ds x i, ds) := by
  have e : bestL b ds x i = Str.ofString "" := by unfold bestL; rw [(fits_nil (Nat.le_of_lt hi)).mp h, str_empty]; rfl
  rw [← e]
  exact step_plain hi h
theorem perm_fits {ds : List LDr} {i : Nat} (hi : i ≤ x.length) : ((fitsP b ds x i).map (·.1)).Perm (fitL b ds x i) := by
  have e : (fitsP b ds x i).map (·.1) = ((possL b ds).map (·.1)).filter (fitAt x i) := by
    unfold fitsP
    rw [List.filter_map]
    congr 1
    refine List.filter_congr fun y _ => ?_
    exact stAt_fit hi
  rw [e]
  unfold fitL someL possL
  rw [List.map_append, List.map_map, List.map_map, List.filter_append, List.filter_append]
  exact List.perm_append_comm
theorem sum_perm {l l' : List Nat} (h : l.Perm l') : l.sum = l'.sum := by
  induction h with
  | nil => rfl
  | cons a _ ih => rw [List.sum_cons, List.sum_cons, ih]
  | swap a c l => rw [List.sum_cons, List.sum_cons, List.sum_cons, List.sum_cons]; omega
  | trans _ _ ih1 ih2 => exact ih1.trans ih2
theorem cn_law (hb : BkOk b) {ds : List LDr} {i : Nat} (hd : LdBk b ds) (hi : i < x.length) (hf : fitL b ds x i ≠ []) {ms : List Str} (hm : ms.Perm (fitL b ds x i)) : (ms.map fun m => cn b x (stepL b ds x i m).2 (i + m.length)).sum = cn b x ds i := by
  have hf' : fitsP b ds x i ≠ [] := fun q => hf ((fits_nil (Nat.le_of_lt hi)).mp q)
  rw [cn_mark hb.2.2.1 hd hi hf']
  have hp := hm.trans (perm_fits (b := b) (ds := ds) (Nat.le_of_lt hi)).symm
  rw [sum_perm (hp.map _), List.map_map]
  congr 1
  refine List.map_congr_left fun y hy => ?_
  show cn b x (stepL b ds x i y.1).2 _ = _
  rw [step_fit hb hd hi hy]
theorem law_step (hb : BkOk b) {ds : List LDr} {i : Nat} (hd : LdBk b ds) (hi : i < x.length) {m : Str} (hm : m ∈ fitL b ds x i) : ∃ y ∈ fitsP b ds x i, y.1 = m ∧ stepL b ds x i m = takeL ds i y.1 y.2 := by
  have := (perm_fits (b := b) (ds := ds) (x := x) (Nat.le_of_lt hi)).mem_iff.mpr hm
  obtain ⟨y, hy, rfl⟩ := List.mem_map.mp this
  exact ⟨y, hy, rfl, step_fit hb hd hi hy⟩
end
end T1
namespace T1
open PySem L2
theorem nd_len2 {α : Type} [DecidableEq α] : ∀ {l m : List α}, l.Nodup → l ⊆ m → l.length ≤ m.length
  | [], _, _, _ => Nat.zero_le _
  | a :: l, m, hn, hs => by
    obtain ⟨h1, h2⟩ := List.nodup_cons.mp hn
    have ha : a ∈ m := hs List.mem_cons_self
    have ih := nd_len2 (m := m.erase a) h2 fun x hx => (List.mem_erase_of_ne (fun e => h1 (by rw [← e]; exact hx))).mpr (hs (List.mem_cons_of_mem _ hx))
    rw [List.length_erase_of_mem ha] at ih
    have := List.length_pos_of_mem ha
    rw [List.length_cons]
    omega
theorem putF_keys {kvs : List (Key × V)} {k : Key} {v : V} {j : Key} : j ∈ (putK kvs k v).map (·.1) ↔ j ∈ kvs.map (·.1) ∨ j = k := by
  unfold putK
  split
  · rename_i h
    have e : (kvs.map fun kv => if kv.1 = k then (kv.1, v) else kv).map (·.1) = kvs.map (·.1) := by
      rw [List.map_map]
      apply List.map_congr_left
      intro p _
      show (if p.1 = k then (p.1, v) else p).1 = p.1
      split <;> rfl
    rw [e]
    refine ⟨.inl, fun g => g.elim id fun g => ?_⟩
    obtain ⟨p, hp, hq⟩ := List.any_eq_true.mp h
    rw [g, ← of_decide_eq_true hq]
    exact List.mem_map_of_mem hp
  · rw [List.map_append, List.mem_append]
    simp
theorem putF_nd {kvs : List (Key × V)} {k : Key} {v : V} (hn : (kvs.map (·.1)).Nodup) : ((putK kvs k v).map (·.1)).Nodup := by
  cases h : valV kvs k with
  | none => exact nd_putK v hn h
  | some u =>
    have e : (putK kvs k v).map (·.1) = kvs.map (·.1) := by
      unfold putK
      rw [if_pos (by rw [valV_any, h]; rfl), List.map_map]
      apply List.map_congr_left
      intro p _
      show (if p.1 = k then (p.1, v) else p).1 = p.1
      split <;> rfl
    rw [e]
    exact hn
structure KSet (kv : List (Key × V)) (S : Nat → Prop) : Prop where
  nd : (kv.map (·.1)).Nodup
  iff : ∀ k, k ∈ kv.map (·.1) ↔ ∃ e : Nat, k = .inl (e : Int) ∧ S e
theorem KSet.nil : KSet [] fun _ => False := ⟨.nil, fun k => ⟨(fun h => nomatch h), fun ⟨_, _, h⟩ => h.elim⟩⟩
theorem KSet.to {kv : List (Key × V)} {S T : Nat → Prop} (h : KSet kv S) (g : ∀ e, S e ↔ T e) : KSet kv T := ⟨h.nd, fun k => (h.iff k).trans ⟨fun ⟨e, h1, h2⟩ => ⟨e, h1, (g e).mp h2⟩, fun ⟨e, h1, h2⟩ => ⟨e, h1, (g e).mpr h2⟩⟩⟩
theorem KSet.put {kv : List (Key × V)} {S : Nat → Prop} (h : KSet kv S) (n : Nat) (v : V) : KSet (putK kv (.inl (n : Int)) v) fun e => S e ∨ e = n := ⟨putF_nd h.nd, fun k => by
  rw [putF_keys, h.iff]
  constructor
  · rintro (⟨e, h1, h2⟩ | h)
    · exact ⟨e, h1, .inl h2⟩
    · exact ⟨n, h, .inr rfl⟩
  · rintro ⟨e, h1, h2 | h2⟩
    · exact .inl ⟨e, h1, h2⟩
    · exact .inr (by rw [h1, h2])⟩
theorem mergeF_keys : ∀ {more kvs : List (Key × V)} {j : Key}, j ∈ (mergeK kvs more).map (·.1) ↔ j ∈ kvs.map (·.1) ∨ j ∈ more.map (·.1)
  | [], kvs, j => ⟨.inl, fun h => h.elim id fun h => nomatch h⟩
  | p :: r, kvs, j => by
    show j ∈ (mergeK (putK kvs p.1 p.2) r).map (·.1) ↔ _
    rw [mergeF_keys, putF_keys, List.map_cons, List.mem_cons, or_assoc]
theorem mergeF_nd : ∀ {more kvs : List (Key × V)}, (kvs.map (·.1)).Nodup → ((mergeK kvs more).map (·.1)).Nodup
  | [], _, h => h
  | p :: r, kvs, h => by
    show ((mergeK (putK kvs p.1 p.2) r).map (·.1)).Nodup
    exact mergeF_nd (putF_nd h)
theorem KSet.merge {kv more : List (Key × V)} {S T : Nat → Prop} (h : KSet kv S) (g : KSet more T) : KSet (mergeK kv more) fun e => S e ∨ T e := ⟨mergeF_nd h.nd, fun k => by
  rw [mergeF_keys, h.iff, g.iff]
  constructor
  · rintro (⟨e, h1, h2⟩ | ⟨e, h1, h2⟩)
    · exact ⟨e, h1, .inl h2⟩
    · exact ⟨e, h1, .inr h2⟩
  · rintro ⟨e, h1, h2 | h2⟩
    · exact .inl ⟨e, h1, h2⟩
    · exact .inr ⟨e, h1, h2⟩⟩
theorem KSet.len {kv : List (Key × V)} {S : Nat → Prop} {n : Nat} (h : KSet kv S) (hs : ∀ e, S e → e ≤ n) : kv.length ≤ n + 1 := by
  have hl := nd_len2 (m := (List.range (n + 1)).map fun e : Nat => (Sum.inl (e : Int) : Key)) h.nd fun k hk => by
    obtain ⟨e, rfl, g⟩ := (h.iff k).mp hk
    exact List.mem_map.mpr ⟨e, List.mem_range.mpr (by have := hs e g; omega), rfl⟩
  simpa using hl
theorem KSet.at {kv : List (Key × V)} {S : Nat → Prop} (h : KSet kv S) {p : Key × V} (hp : p ∈ kv) : ∃ e : Nat, p.1 = .inl (e : Int) ∧ S e := (h.iff _).mp (List.mem_map_of_mem hp)
abbrev shE : List Bool := [false, true]
def rmK (R : Rm) : List Key := [.inl R.1, .inr R.2]
def keE (R : Rm) (i : Nat) : List NKey := [.inr (rmK R), .inl (.inl (i : Int))]
theorem rmK_inj {R S : Rm} (h : rmK R = rmK S) : R = S := by
  unfold rmK at h
  injection h with h1 h2
  injection h2 with h2 _
  injection h1 with h1
  injection h2 with h2
  exact Prod.ext h1 h2
theorem keE_inj {R S : Rm} {i j : Nat} (h : keE R i = keE S j) : R = S ∧ i = j := by
  unfold keE at h
  injection h with h1 h2
  injection h2 with h2 _
  injection h1 with h1
  injection h2 with h2
  injection h2 with h2
  exact ⟨rmK_inj h1, by omega⟩
theorem sqT_same {K : PySem.W.Frag} {H H' : Hp} {a : Addr} {xs : List V} (h : SqT K H a xs) (s : Same H H') : SqT K H' a xs := by
  rcases h with (h | ⟨o, h⟩) | h
  · exact .inl (.inl (s _ _ h))
  · exact .inl (.inr ⟨o, s _ _ h⟩)
  · exact .inr h
def RmAt (K : PySem.W.Frag) (z : Addr) (H : Hp) (a : Addr) (R : Rm) : Prop := SqT K H a ((rmK R).map kV) ∧ (R ≠ outR → H a = some (.tup [.int R.1, .str R.2]) ∧ a ≠ z)
theorem RmAt.same {K : PySem.W.Frag} {z : Addr} {H H' : Hp} {a : Addr} {R : Rm} (h : RmAt K z H a R) (s : Same H H') : RmAt K z H' a R := ⟨sqT_same h.1 s, fun g => ⟨s _ _ (h.2 g).1, (h.2 g).2⟩⟩
structure RmsAt (K : PySem.W.Frag) (z : Addr) (H : Hp) (as : List Addr) (rs : List Rm) : Prop where
  len : as.length = rs.length
  at_ : ∀ i (h : i < as.length), RmAt K z H as[i] (rs.getD i outR)
theorem RmsAt.same {K : PySem.W.Frag} {z : Addr} {H H' : Hp} {as : List Addr} {rs : List Rm} (h : RmsAt K z H as rs) (s : Same H H') : RmsAt K z H' as rs := ⟨h.len, fun i g => (h.at_ i g).same s⟩
theorem RmsAt.snoc {K : PySem.W.Frag} {z : Addr} {H : Hp} {as : List Addr} {rs : List Rm} {a : Addr} {R : Rm} (h : RmsAt K z H as rs) (g : RmAt K z H a R) : RmsAt K z H (as ++ [a]) (rs ++ [R]) := ⟨by rw [List.length_append, List.length_append, h.len]; rfl, fun i hi => by
  rw [List.length_append] at hi
  by_cases e : i < as.length
  · have h1 := h.at_ i e
    rw [List.getElem_append_left e]
    have : (rs ++ [R]).getD i outR = rs.getD i outR := by
      rw [List.getD_eq_getElem?_getD, List.getD_eq_getElem?_getD, List.getElem?_append_left (by rw [← h.len]; exact e)]
    rw [this]
    exact h1
  · have e2 : i = as.length := by have : [a].length = 1 := rfl; omega
    subst e2
    rw [List.getElem_append_right (Nat.le_refl _)]
    have : (rs ++ [R]).getD as.length outR = R := by
      rw [h.len, List.getD_eq_getElem?_getD, List.getElem?_append_right (Nat.le_refl _), Nat.sub_self]
      rfl
    rw [this]
    simpa using g⟩
structure RmsOk (b : Bk) (rs : List Rm) : Prop where
  nd : rs.Nodup
  out : outR ∈ rs
  all : ∀ t ∈ b, ∀ d ∈ t.2, d.2 ∈ rs
  bk : ∀ R ∈ rs, R = outR ∨ ∃ t ∈ b, ∃ d ∈ t.2, R = d.2
  few : rs.length ≤ 100
theorem dsR_ok {b : Bk} {R : Rm} (h : R = outR ∨ ∃ t ∈ b, ∃ d ∈ t.2, R = d.2) : LdBk b (dsR R) := by
  unfold dsR
  split
  · exact fun d hd => nomatch hd
  · rename_i hne
    intro d hd
    obtain ⟨t, ht, dr, hdr, e⟩ := h.resolve_left hne
    obtain rfl := List.mem_singleton.mp hd
    exact ⟨t, ht, dr, hdr, by rw [e], by rw [e]⟩
section
variable {b : Bk} {x : Str}
theorem sh_end {R : Rm} {e : Nat} : Sh b x R x.length e ↔ R = outR ∧ e = x.length := by
  constructor
  · intro h
    generalize hi : x.length = i at h
    cases h with
    | out => exact ⟨rfl, rfl⟩
    | plain hi' _ _ _ => omega
    | close hi' _ => omega
    | opn hi' _ _ _ => omega
  · rintro ⟨rfl, rfl⟩
    exact .out
theorem sh_plain {R : Rm} {i e : Nat} (hi : i < x.length) (hf : fitsP b (dsR R) x i = []) : Sh b x R i e ↔ (plainL b (dsR R) x i).2.2.1 ≠ Str.ofString "cut" ∧ Sh b x R (i + (plainL b (dsR R) x i).2.1.toNat) e := by
  constructor
  · intro h
    cases h with
    | out => omega
    | plain _ _ hc h => exact ⟨hc, h⟩
    | close _ hy => rw [hf] at hy; cases hy
    | opn _ hy _ _ => rw [hf] at hy; cases hy
  · rintro ⟨hc, h⟩
    exact .plain hi hf hc h
def via (b : Bk) (x : Str) (R : Rm) (i : Nat) (y : Mk) (e : Nat) : Prop := match y.2 with
  | none => e = i + y.1.length
  | some d => ∃ k, Sh b x d.2 (i + y.1.length) k ∧ Sh b x R k e
theorem sh_mark {R : Rm} {i e : Nat} (hi : i < x.length) (hf : fitsP b (dsR R) x i ≠ []) : Sh b x R i e ↔ ∃ y ∈ fitsP b (dsR R) x i, via b x R i y e := by
  constructor
  · intro h
    cases h with
    | out => omega
    | plain _ hf' _ _ => exact absurd hf' hf
    | close _ hy => exact ⟨_, hy, rfl⟩
    | opn _ hy h1 h2 => exact ⟨_, hy, _, h1, h2⟩
  · rintro ⟨⟨m, o⟩, hy, h⟩
    cases o with
    | none =>
      have e1 : e = i + m.length := h
      subst e1
      exact .close hi hy
    | some d =>
      obtain ⟨k, h1, h2⟩ := h
      exact .opn hi hy h1 h2
end
def EndAt (P : Program) (w : World) (H : Hp) (d : Addr) (b : Bk) (x : Str) (R : Rm) (i : Nat) : Prop := ∃ ep kv, H d = some (dE P w d ep kv) ∧ KSet kv (Sh b x R i)
theorem EndAt.same {P : Program} {w : World} {H H' : Hp} {d : Addr} {b : Bk} {x : Str} {R : Rm} {i : Nat} (h : EndAt P w H d b x R i) (s : Same H H') : EndAt P w H' d b x R i := let ⟨ep, kv, h1, h2⟩ := h; ⟨ep, kv, s _ _ h1, h2⟩
structure EndsD (P : Program) (w : World) (K : PySem.W.Frag) (H : Hp) (ed : Addr) (b : Bk) (x : Str) (rs : List Rm) (p : Nat) (kvs : List NEnt) : Prop where
  here : H ed = some (dN P w shE ed kvs)
  keys : KeysW K H shE kvs
  at_ : ∀ R ∈ rs, ∀ j, p ≤ j → j ≤ x.length → ∃ d, d ≠ ed ∧ nval kvs (keE R j) = some (.ref d) ∧ EndAt P w H d b x R j
theorem EndsD.same {P : Program} {w : World} {K : PySem.W.Frag} {H H' : Hp} {ed : Addr} {b : Bk} {x : Str} {rs : List Rm} {p : Nat} {kvs : List NEnt} (h : EndsD P w K H ed b x rs p kvs) (s : Same H H') : EndsD P w K H' ed b x rs p kvs := ⟨s _ _ h.here, h.keys.same s, fun R hR j h1 h2 => let ⟨d, g0, g1, g2⟩ := h.at_ R hR j h1 h2; ⟨d, g0, g1, g2.same s⟩⟩
theorem key_at {K : PySem.W.Frag} {z : Addr} {H : Hp} {a r : Addr} {R : Rm} {i : Nat} (h : SqT K H a ((rmK R).map kV)) (hr : H r = some (.tup [.ref a, .int (i : Int)])) : NKeyW K H (keE R i) r := ⟨_, hr, .cons ⟨a, rfl, h⟩ (.cons rfl .nil)⟩
theorem nval_snoc {kvs : List NEnt} {k j : List NKey} {r : Addr} {v : V} (h : nval kvs k = none) : nval (kvs ++ [(k, r, v)]) j = if j = k then some v else nval kvs j := by
  unfold nval at *
  rw [List.find?_append]
  by_cases e : j = k
  · subst e
    rw [if_pos rfl]
    cases g : kvs.find? fun p => decide (p.1 = j) with
    | none => simp [List.find?_cons]
    | some q => rw [g] at h; cases h
  · rw [if_neg e]
    cases g : kvs.find? fun p => decide (p.1 = j) with
    | none => simp [List.find?_cons, Ne.symm e]
    | some q => simp
end T1
namespace T1
open PySem L2
structure TxO (mg : Str → Option Value) (K : PySem.W.Frag) (aO : Addr) : Prop where
  g : mg "OUTSIDE" = some (.ref aO)
  t : ∃ (o : Obj) (its : Array Value) (n : Nat), K.lookup aO = some o ∧ o.cls = .type "tuple" ∧ o.data = .seq its n ∧ its.size ≤ sizeLine ∧ Vals ((rmK outR).map kV) its.toList
theorem TxO.rm {mg : Str → Option Value} {K : PySem.W.Frag} {aO : Addr} (T : TxO mg K aO) (z : Addr) (H : Hp) : RmAt K z H aO outR := ⟨.inr T.t, fun h => absurd rfl h⟩
theorem sqT_updL {K : PySem.W.Frag} {H : Hp} {a p : Addr} {xs l l' : List V} (hp : H p = some (.lst l)) (h : SqT K H a xs) : SqT K (upd H p (.lst l')) a xs := by
  rcases h with (h | ⟨o, h⟩) | h
  · exact .inl (.inl (by rw [upd_ne (ne_of h hp (by intro e; cases e))]; exact h))
  · exact .inl (.inr ⟨o, by rw [upd_ne (ne_of h hp (by intro e; cases e))]; exact h⟩)
  · exact .inr h
theorem RmAt.updL {K : PySem.W.Frag} {z : Addr} {H : Hp} {a p : Addr} {R : Rm} {l l' : List V} (hp : H p = some (.lst l)) (h : RmAt K z H a R) : RmAt K z (upd H p (.lst l')) a R := ⟨sqT_updL hp h.1, fun g => ⟨by rw [upd_ne (ne_of (h.2 g).1 hp (by intro e; cases e))]; exact (h.2 g).1, (h.2 g).2⟩⟩
inductive spRooms (K : PySem.W.Frag) : List V → Hp → VK → XK → Prop where
  | mk {vs : List V} {H : Hp} {Q : VK} {E : XK} (z v b : _) (c1 : vs = [v]) (c2 : Bag z H) (c3 : Rep z H v (bkD b)) (c4 : BkOk b)
    (q : ∀ p as rs H', Same H H' → H p = none → H' p = some (.lst (as.map V.ref)) → RmsAt K z H' as rs → RmsOk b rs → Q (.ref p) H') : spRooms K vs H Q E
structure RmsTo (b : Bk) (i : Nat) (j : Nat) (rs : List Rm) : Prop where
  nd : rs.Nodup
  out : outR ∈ rs
  all : ∀ t ∈ b.take i, ∀ d ∈ t.2, d.2 ∈ rs
  now : ∀ d ∈ (b.getD i tg0).2.take j, d.2 ∈ rs
  bk : ∀ R ∈ rs, R = outR ∨ ∃ t ∈ b, ∃ d ∈ t.2, R = d.2
  few : rs.length ≤ 1 + 6 * i + j
theorem RmsTo.start (b : Bk) : RmsTo b 0 0 [outR] := ⟨by simp, by simp, fun t ht => (by simp at ht), fun d hd => (by simp at hd), fun R hR => .inl (by simpa using hR), by simp⟩
theorem RmsTo.next {b : Bk} {i : Nat} {rs : List Rm} (hi : i < b.length) (h : RmsTo b i (b.getD i tg0).2.length rs) (h6 : (b.getD i tg0).2.length ≤ 6) : RmsTo b (i + 1) 0 rs := ⟨h.nd, h.out, fun t ht d hd => by
    rw [List.take_add_one, List.mem_append] at ht
    rcases ht with ht | ht
    · exact h.all t ht d hd
    · rw [List.getElem?_eq_getElem hi] at ht
      have e : t = b.getD i tg0 := by
        have : t = b[i] := by simpa using ht
        rw [this]; simp [hi]
      rw [e] at hd
      exact h.now d (by rw [List.take_length]; exact hd), fun d hd => (by simp at hd), h.bk, by have := h.few; omega⟩
theorem RmsTo.more {b : Bk} {i j : Nat} {rs : List Rm} (h : RmsTo b i j rs) (hi : i < b.length) (hj : j < (b.getD i tg0).2.length) :
    (((b.getD i tg0).2.getD j dr0).2 ∈ rs → RmsTo b i (j + 1) rs) ∧ (((b.getD i tg0).2.getD j dr0).2 ∉ rs → RmsTo b i (j + 1) (rs ++ [((b.getD i tg0).2.getD j dr0).2])) := by
  have tk : ∀ d, d ∈ (b.getD i tg0).2.take (j + 1) → d ∈ (b.getD i tg0).2.take j ∨ d = (b.getD i tg0).2.getD j dr0 := fun d hd => by
    rw [List.take_add_one, List.mem_append] at hd
    refine hd.imp id fun hd => ?_
    rw [List.getElem?_eq_getElem hj] at hd
    have : d = (b.getD i tg0).2[j] := by simpa using hd
    rw [this]
    exact (getD_mem' dr0 hj).symm
  refine ⟨fun g => ⟨h.nd, h.out, h.all, fun d hd => ?_, h.bk, by have := h.few; omega⟩, fun g => ⟨?_, List.mem_append_left _ h.out, fun t ht d hd => List.mem_append_left _ (h.all t ht d hd), fun d hd => ?_, fun R hR => ?_, by rw [List.length_append]; have := h.few; show _ + 1 ≤ _; omega⟩⟩
  · rcases tk d hd with hd | hd
    · exact h.now d hd
    · rw [hd]; exact g
  · rw [List.nodup_append]
    refine ⟨h.nd, by simp, fun a ha c hc e => ?_⟩
    rw [List.mem_singleton.mp hc] at e
    rw [e] at ha
    exact g ha
  · rcases tk d hd with hd | hd
    · exact List.mem_append_left _ (h.now d hd)
    · rw [hd]; exact List.mem_append_right _ List.mem_cons_self
  · rcases List.mem_append.mp hR with hR | hR
    · exact h.bk R hR
    · exact .inr ⟨_, getD_mem tg0 hi, _, getD_mem dr0 hj, List.mem_singleton.mp hR⟩
theorem RmsTo.done {b : Bk} {rs : List Rm} (h : RmsTo b b.length 0 rs) (h6 : b.length ≤ 6) : RmsOk b rs := ⟨h.nd, h.out, fun t ht => h.all t (by rw [List.take_length]; exact ht), h.bk, by have := h.few; omega⟩
section
variable {P : Program} {w : World} {K : PySem.W.Frag} {mg : Str → Option Value} {base : Heap}
theorem scRooms : FnScope ["book", "rooms", "escape", "doors", "opening", "inner", "close"] ["book"] (defScope sRoomsOf) := ⟨rfl, rfl, rfl, by decide +kernel, rfl, by decide +kernel, by decide +kernel⟩
set_option maxHeartbeats 0 in
theorem ok_rooms {f aO : Addr} {fd : FuncData} (F : Fun K "rooms_of" "rooms_of" sRoomsOf f fd) (TO : TxO mg K aO) : FnOk P w K mg base CX0 1 f fd ["book"] (spRooms K) := by
  refine F.ok scRooms (fun vs H Q E h => ?_) (fun cdv A outer s H vs Q E hr h => ?_)
  · obtain ⟨z, v, b, rfl, _⟩ := h
    rfl
  · obtain ⟨z, v, b, rfl, hB, R0, hok, k⟩ := h
    obtain ⟨a, xs, rfl, haz, ha, hxl, R⟩ := rep_book R0
    obtain ⟨hb1, hb6, htok, _⟩ := hok
    have nd := scRooms.nd
    have hu : (A.deeper (PyProof.Rows.envOfC (Str.ofString "rooms_of") (defScope sRoomsOf) s.heap.objs.size f cdv)).units + 6 < cLine := by have := hr.un; omega
    refine ⟨_, pss_cons (ps_set (i := 1) nd rfl (Or.inl rfl) (pe_lst (pa_cons (pe_glob (v := .ref aO) rfl TO.g rfl) pa_nil)))
      (pss_cons (ps_for PassesOwn.never rfl (pi_tup (pv 0)) (pg_tup rfl (pgs_cons (pg_name (i := 2) nd rfl (Or.inl rfl)) (pgs_cons (pg_name (i := 3) nd rfl (Or.inl rfl)) pgs_nil)))
        (pss_one (ps_for PassesOwn.never rfl (pi_tup (pv 3)) (pg_tup rfl (pgs_cons (pg_name (i := 4) nd rfl (Or.inl rfl)) (pgs_cons (pg_name (i := 5) nd rfl (Or.inl rfl)) (pgs_cons (pg_name (i := 6) nd rfl (Or.inl rfl)) pgs_nil))))
          (pss_one (ps_if (pt_cmpR (op_notInR hu) (pe_tup (pa_cons (pv 5) (pa_cons (pv 6) pa_nil))) (pv 1) rfl) (pss_one (ps_expr (pe_bm PySem.F.plainAttrs_list PySem.F.slot_list_append PySem.F.type_list_append mt_append (pv 1) (pa_cons (pe_tup (pa_cons (pv 5) (pa_cons (pv 6) pa_nil))) pa_nil)))) pss_nil)))))
      (pss_one (ps_ret (pv 1)))), ?_⟩
    dsimp only [cxOf, Cx.nox, Cx.wish]
    have big := big1000
    refine ⟨by show (1 : Nat) ≤ _; omega, fun p np => ?_⟩
    have s0 : Same H (upd H p (.lst [.ref aO])) := Same.new np
    have hpz : p ≠ z := hB.ne np
    refine ⟨_, rfl, a, rfl, ⟨_, SqT.of (s0 _ _ ha)⟩, for_tup (K := K) (a := a) (xs := xs) (fun i σ H2 => ∃ as rs u2 u3 u4 u5 u6, σ = [some (.ref a), some (.ref p), u2, u3, u4, u5, u6] ∧ Same H H2 ∧ H2 p = some (.lst (as.map V.ref)) ∧ RmsAt K z H2 as rs ∧ RmsTo b i 0 rs)
      ⟨[aO], [outR], _, _, _, _, _, rfl, s0, upd_same, ⟨rfl, fun i hi => by
        have e : i = 0 := by have : [aO].length = 1 := rfl; omega
        subst e
        exact TO.rm z _⟩, RmsTo.start b⟩ (fun i σ H2 _ ⟨_, _, _, _, _, _, _, _, s, _⟩ => SqT.of (s _ _ ha)) ?_ ?_⟩
    · rintro i y σ H2 hi ⟨as, rs, u2, u3, u4, u5, u6, rfl, s2, hp, RA, RT⟩
      have hil : i < b.length := by have := (List.getElem?_eq_some_iff.mp hi).1; omega
      have ey : y = xs.getD i .non := by rw [List.getD_eq_getElem?_getD, hi]; rfl
      have tok := htok _ (getD_mem tg0 hil)
      obtain ⟨c, d, ys, e, hcz, hdz, hc, hd, hyl, Ry⟩ := rep_tongue (reps_tongue (b := b) (i := i) R hil)
      have hyl : ys.length = (b.getD i tg0).2.length := hyl
      rw [ey, e]
      have few := tok.2.1
      refine ⟨c, _, rfl, SqT.of (s2 _ _ hc), rfl, _, _, rfl, _, _, rfl, rfl, ?_⟩
      refine ⟨_, rfl, d, rfl, ⟨_, SqT.of (s2 _ _ hd)⟩, for_tup (K := K) (a := d) (xs := ys) (fun j σ H3 => ∃ as rs u2 u4 u5 u6, σ = [some (.ref a), some (.ref p), u2, some (.ref d), u4, u5, u6] ∧ Same H H3 ∧ H3 p = some (.lst (as.map V.ref)) ∧ RmsAt K z H3 as rs ∧ RmsTo b i j rs)
        ⟨as, rs, _, _, _, _, rfl, s2, hp, RA, RT⟩ (fun j σ H3 _ ⟨_, _, _, _, _, _, _, s, _⟩ => SqT.of (s _ _ hd)) ?_ ?_⟩
      · rintro j y2 σ H3 hj ⟨as, rs, u2, u4, u5, u6, rfl, s3, hp, RA, RT⟩
        have hjl : j < (b.getD i tg0).2.length := by have := (List.getElem?_eq_some_iff.mp hj).1; omega
        have ey2 : y2 = ys.getD j .non := by rw [List.getD_eq_getElem?_getD, hj]; rfl
        obtain ⟨q, e2, hqz, hq⟩ := rep_door (reps_door (ds := (b.getD i tg0).2) (i := j) Ry hjl)
        have dok := tok.2.2 _ (getD_mem dr0 hjl)
        have mo := RT.more hil hjl
        have hlen := RT.few
        rw [ey2, e2]
        generalize (b.getD i tg0).2.getD j dr0 = D at *
        refine ⟨q, _, rfl, SqT.of (s3 _ _ hq), rfl, _, _, rfl, _, _, rfl, _, _, rfl, rfl, ?_⟩
        refine ⟨_, rfl, _, rfl, by show (2 : Nat) ≤ _; omega, fun pt npt => ?_⟩
        have t4 := Same.new (o := .tup [.int D.2.1, .str D.2.2]) npt
        have hpt : upd H3 pt (.tup [.int D.2.1, .str D.2.2]) pt = some (.tup [.int D.2.1, .str D.2.2]) := upd_same
        have s4 := s3.trans t4
        have RA4 := RA.same t4
        have hp4 := t4 _ _ hp
        generalize upd H3 pt (.tup [.int D.2.1, .str D.2.2]) = H4 at *
        have any_rm : (!((rs.map rmK).any fun m => decide (m = rmK D.2))) = !decide (D.2 ∈ rs) := by
          congr 1
          rw [Bool.eq_iff_iff, decide_eq_true_iff, List.any_eq_true]
          constructor
          · rintro ⟨m, hm, e⟩
            obtain ⟨S, hS, rfl⟩ := List.mem_map.mp hm
            rw [← rmK_inj (of_decide_eq_true e)]
            exact hS
          · exact fun h => ⟨_, List.mem_map_of_mem h, decide_eq_true rfl⟩
        refine ⟨_, rfl, pt, p, as, rmK D.2, rs.map rmK, rfl, rfl, hp4, SqT.of hpt, (by rw [List.length_map]; exact RA4.len), fun i hi => ?_, ?_⟩
        · have e : (rs.map rmK).getD i [] = rmK (rs.getD i outR) := by
            have h1 : i < rs.length := by rw [← RA4.len]; exact hi
            rw [getD_mem' [] (by rw [List.length_map]; exact h1), getD_mem' outR h1, List.getElem_map]
          rw [e]
          exact ⟨(RA4.at_ i hi).1, rfl⟩
        · rw [any_rm]
          refine ⟨_, rfl, ite2 (fun g => ?_) (fun g => ?_)⟩
          · have g : D.2 ∉ rs := by simpa using g
            refine ⟨_, rfl, .inl ⟨rfl, _, SqL.of hp4⟩, _, rfl, _, rfl, by show (2 : Nat) ≤ _; omega, fun pu npu => ?_⟩
            have t5 := Same.new (o := .tup [.int D.2.1, .str D.2.2]) npu
            have hpu : upd H4 pu (.tup [.int D.2.1, .str D.2.2]) pu = some (.tup [.int D.2.1, .str D.2.2]) := upd_same
            have huz : pu ≠ z := (hB.same s4).ne npu
            have s5 := s4.trans t5
            have RA5 := RA4.same t5
            have hp5 := t5 _ _ hp4
            generalize upd H4 pu (.tup [.int D.2.1, .str D.2.2]) = H5 at *
            refine ⟨p, as.map V.ref, _, rfl, rfl, hp5, by rw [List.length_map, RA5.len]; omega, ?_⟩
            have RU : RmAt K z H5 pu D.2 := ⟨SqT.of hpu, fun _ => ⟨hpu, huz⟩⟩
            have RA6 : RmsAt K z (upd H5 p (.lst (as.map V.ref ++ [.ref pu]))) (as ++ [pu]) (rs ++ [D.2]) := RmsAt.snoc ⟨RA5.len, fun i hi => (RA5.at_ i hi).updL hp5⟩ (RU.updL hp5)
            exact ⟨as ++ [pu], rs ++ [D.2], _, _, _, _, rfl, fun b' o e' => by rw [upd_ne (ne_of_none e' np)]; exact s5 b' o e', by rw [upd_same, List.map_append]; rfl, RA6, mo.2 g⟩
          · have g : D.2 ∈ rs := by simpa using g
            exact ⟨as, rs, _, _, _, _, rfl, s4, hp4, RA4, mo.1 g⟩
      · rintro σ H3 ⟨as, rs, u2, u4, u5, u6, rfl, s3, hp, RA, RT⟩
        exact ⟨as, rs, _, _, _, _, _, rfl, s3, hp, RA, (by rw [hyl] at RT; exact RT.next hil few)⟩
    · rintro σ H2 ⟨as, rs, u2, u3, u4, u5, u6, rfl, s2, hp, RA, RT⟩
      exact ⟨_, rfl, k p as rs H2 s2 np hp RA ((by rw [hxl] at RT; exact RT : RmsTo b b.length 0 rs).done hb6)⟩
end
end T1
namespace T1
open PySem L2
theorem rmEq (R S : Rm) : decide (rmK R = rmK S) = decide (R = S) := decide_eq_decide.mpr ⟨rmK_inj, fun h => by rw [h]⟩
theorem rm_len {b : Bk} {R : Rm} (hb : ∀ t ∈ b, TgOk b.length t) (h : R = outR ∨ ∃ t ∈ b, ∃ d ∈ t.2, R = d.2) : R.2.length ≤ 4 := by
  rcases h with h | ⟨t, ht, d, hd, h⟩
  · rw [h]; decide +kernel
  · rw [h]; exact (markS_len ((hb t ht).2.2 d hd).2.2).1
theorem via_le {b : Bk} {x : Str} {R : Rm} {i e : Nat} {y : Mk} (hb : ∀ t ∈ b, TgOk b.length t) {ds : List LDr} (hy : y ∈ fitsP b ds x i) (h : via b x R i y e) : e ≤ x.length := by
  rcases y with ⟨m, o⟩
  cases o with
  | none =>
    have e1 : e = i + m.length := h
    rw [e1]
    exact fits_len hy
  | some d =>
    obtain ⟨k, _, h2⟩ := h
    exact (sh_cn hb h2).1
theorem fits_door {b : Bk} {x : Str} {R : Rm} {i : Nat} {m : Str} {d : Dr} (hR : R = outR ∨ ∃ t ∈ b, ∃ d ∈ t.2, R = d.2) (hb1 : 1 ≤ b.length) (hb : ∀ t ∈ b, TgOk b.length t) (h : ((m, some d) : Mk) ∈ fitsP b (dsR R) x i) : ∃ t ∈ b, d ∈ t.2 := by
  have h := (List.mem_filter.mp h).1
  unfold possL at h
  rcases List.mem_append.mp h with h | h
  · obtain ⟨_, _, e⟩ := List.mem_map.mp h
    injection e with _ e
    cases e
  · obtain ⟨d', hd', e⟩ := List.mem_map.mp h
    injection e with _ e
    injection e with e
    rw [e] at hd'
    obtain ⟨tN, htN, htl⟩ := tongue_nat ((dsR_ok hR).ok hb) hb1
    rw [htN] at hd'
    exact ⟨_, getD_mem tg0 htl, hd'⟩
inductive spEnds (P : Program) (w : World) (K : PySem.W.Frag) : List V → Hp → VK → XK → Prop where
  | mk {vs : List V} {H : Hp} {Q : VK} {E : XK} (z v b x rs R : _) (i : Nat) (aR ed : Addr) (kvs : _) (c1 : vs = [v, .str x, .int (i : Int), .ref aR, .ref ed]) (c2 : Bag z H) (c3 : Rep z H v (bkD b)) (c4 : BkOk b) (c5 : RmsOk b rs) (c6 : R ∈ rs) (c7 : RmAt K z H aR R) (c8 : i ≤ x.length) (c9 : x.length ≤ 20000) (c10 : EndsD P w K H ed b x rs (i + 1) kvs)
    (q : ∀ d H', d ≠ ed → Same H H' → EndAt P w H' d b x R i → Q (.ref d) H') : spEnds P w K vs H Q E
section
variable {P : Program} {w : World} {K : PySem.W.Frag} {mg : Str → Option Value} {base : Heap}
theorem scEnds : FnScope ["book", "text", "place", "room", "ends", "doors", "fits", "step", "found", "mark", "door", "behind", "opening", "inner", "close", "back"] ["book", "text", "place", "room", "ends"] (defScope sEndsFrom) := ⟨rfl, rfl, rfl, by decide +kernel, rfl, by decide +kernel, by decide +kernel⟩
set_option maxHeartbeats 0 in
theorem ok_ends {f aO f1 f2 : Addr} {fd fd1 fd2 : FuncData} (F : Fun K "ends_from" "ends_from" sEndsFrom f fd) (TO : TxO mg K aO) (T : TxtB mg)
    (k1 : PySem.W.keepIn K (.ref f1) = true) (b1 : Binds K fd1 ["book", "text", "place", "doors"] []) (m1 : mg "fitting_marks" = some (.ref f1)) (G1 : FnOk P w K mg base CX0 3 f1 fd1 ["book", "text", "place", "doors"] spFitP)
    (k2 : PySem.W.keepIn K (.ref f2) = true) (b2 : Binds K fd2 ["book", "text", "place", "doors"] []) (m2 : mg "read_plain" = some (.ref f2)) (G2 : FnOk P w K mg base CX0 2 f2 fd2 ["book", "text", "place", "doors"] spPlainR) : FnOk P w K mg base CX0 4 f fd ["book", "text", "place", "room", "ends"] (spEnds P w K) := by
  refine F.ok scEnds (fun vs H Q E h => ?_) (fun cdv A outer s H vs Q E hr h => ?_)
  · obtain ⟨z, v, b, x, rs, R, i, aR, ed, kvs, rfl, _⟩ := h
    rfl
  · obtain ⟨z, v, b, x, rs, R, i, aR, ed, kvs, rfl, hB, R0, hok, hrs, hR, hRm, hi, hx, hE, q⟩ := h
    have nd := scEnds.nd
    have hu : (A.deeper (PyProof.Rows.envOfC (Str.ofString "ends_from") (defScope sEndsFrom) s.heap.objs.size f cdv)).units + 6 < cLine := by have := hr.un; omega
    have hu4 : (A.deeper (PyProof.Rows.envOfC (Str.ofString "ends_from") (defScope sEndsFrom) s.heap.objs.size f cdv)).units + 4 < cLine := by have := hr.un; omega
    have hu1 : (A.deeper (PyProof.Rows.envOfC (Str.ofString "ends_from") (defScope sEndsFrom) s.heap.objs.size f cdv)).units + 1 < cLine := by have := hr.un; omega
    refine ⟨_, pss_cons (ps_if (pt_cmpR op_eq (pv 2) (pe_callB call_len_str (by rfl) T.len b_len (pa_cons (pv 1) pa_nil)) (nomark _))
        (pss_one (ps_ret (pe_pin (pe_ifExp (pt_cmpR (op_eqR hu4) (pv 3) (pe_glob (v := .ref aO) rfl TO.g rfl) (nomark _)) (pe_disp (pps_cons (pv 2) pe_bl pps_nil) rfl rfl (by simp) (by decide)) pe_dnewK)))) pss_nil)
      (pss_cons (ps_set (i := 5) nd rfl (Or.inl rfl) (pe_ifExp (pt_cmpR (op_eqR hu4) (pv 3) (pe_glob (v := .ref aO) rfl TO.g rfl) (nomark _)) (pe_lst pa_nil) (pe_lst (pa_cons (pv 3) pa_nil))))
      (pss_cons (ps_set (i := 6) nd rfl (Or.inl rfl) (pe_call G1 hr rfl m1 k1 b1 .nil pass0 (pa_cons (pv 0) (pa_cons (pv 1) (pa_cons (pv 2) (pa_cons (pv 5) pa_nil))))))
      (pss_cons (ps_if (pt_not (pt_truth (pv 6) (fun _ => rfl))) (pss_cons (ps_set (i := 7) nd rfl (Or.inl rfl) (pe_call (G2.mono (by omega)) hr rfl m2 k2 b2 .nil pass0 (pa_cons (pv 0) (pa_cons (pv 1) (pa_cons (pv 2) (pa_cons (pv 5) pa_nil))))))
          (pss_one (ps_ret (pe_ifExp (pt_cmpR op_eq (pe_ix ix_tup (pv 7) pe_int (fun _ _ => rfl)) pe_str (nomark _)) (pe_pin pe_dnewK) (pe_ixW hu shE (pv 4) (pe_tup (pa_cons (pv 3) (pa_cons (pe_op op_add (pv 2) (pe_ix ix_tup (pv 7) pe_int (fun _ _ => rfl))) pa_nil))) (fun _ _ => rfl)))))) pss_nil)
      (pss_cons (ps_set (i := 8) nd rfl (Or.inl rfl) pe_dnewK)
      (pss_cons (ps_for PassesOwn.never rfl (pi_list (pv 6)) (pg_tup rfl (pgs_cons (pg_name (i := 9) nd rfl (Or.inl rfl)) (pgs_cons (pg_name (i := 10) nd rfl (Or.inl rfl)) pgs_nil)))
        (pss_cons (ps_set (i := 11) nd rfl (Or.inl rfl) (pe_op op_add (pv 2) (pe_callB call_len_str (by rfl) T.len b_len (pa_cons (pv 9) pa_nil))))
        (pss_one (ps_if (pt_cmpR op_isN (pv 10) pe_non (nomark _)) (pss_one (ps_dput hu1 (pv 8) (pv 11) pe_bl rfl))
          (pss_cons (ps_asg (pv 10) (pg_tup rfl (pgs_cons (pg_name (i := 12) nd rfl (Or.inl rfl)) (pgs_cons (pg_name (i := 13) nd rfl (Or.inl rfl)) (pgs_cons (pg_name (i := 14) nd rfl (Or.inl rfl)) pgs_nil)))))
          (pss_one (ps_for PassesOwn.never rfl (pi_dictE (pe_ixW hu shE (pv 4) (pe_tup (pa_cons (pe_tup (pa_cons (pv 13) (pa_cons (pv 14) pa_nil))) (pa_cons (pv 11) pa_nil))) (fun _ _ => rfl))) (pg_name (i := 15) nd rfl (Or.inl rfl))
            (pss_one (ps_expr (pe_dupd (pv 8) (pe_ixW hu shE (pv 4) (pe_tup (pa_cons (pv 3) (pa_cons (pv 15) pa_nil))) (fun _ _ => rfl)) ⟨rfl, rfl, rfl, rfl⟩))))))))))
      (pss_one (ps_ret (pe_pin (pv 8))))))))), ?_⟩
    dsimp only [cxOf, Cx.nox, Cx.wish]
    have big := big1000
    have big2 : (100000 : Nat) ≤ sizeLine := by rw [sizeLine_eq]; decide
    obtain ⟨hb1, hb6, htok, hbB⟩ := id hok
    have hbk := hrs.bk R hR
    have hld := (dsR_ok hbk).ok htok
    have hR4 := rm_len htok hbk
    have hO := (TO.rm z H).1
    refine seq_hide fun U hU => ?_
    refine ⟨_, rfl, _, rfl, x, rfl, by omega, rfl, _, rfl, ite2 (fun g => ?_) (fun g => hU _ _ ?_)⟩
    · have g : i = x.length := by
        have g := of_decide_eq_true g
        injection g with g
        omega
      refine ⟨_, rfl, aR, aO, rmK R, rmK outR, rfl, rfl, hRm.1, hO, rfl, _, rfl, ?_⟩
      rw [rmEq]
      refine ite2 (fun g2 => ?_) (fun g2 => ?_)
      · have g2 : R = outR := of_decide_eq_true g2
        refine fun p np => ⟨_, rfl, upd_same, [(.inl (i : Int), .bl true)], rfl, by show (1 : Nat) ≤ 15; decide, p, _, rfl, upd_same, fun ep => ?_⟩
        refine q p _ (Ne.symm (ne_of_none hE.here np)) (fun b' o e' => by rw [upd_ne (ne_of_none e' np), upd_ne (ne_of_none e' np), upd_ne (ne_of_none e' np)]; exact e') ⟨ep, _, upd_same, (KSet.nil.put i (.bl true)).to fun e => ?_⟩
        rw [g, g2, sh_end]
        exact ⟨fun h => ⟨rfl, h.resolve_left id⟩, fun h => .inr h.2⟩
      · have g2 : R ≠ outR := of_decide_eq_false (by simpa using g2)
        refine fun p np => ⟨p, _, rfl, upd_same, fun ep => ?_⟩
        refine q p _ (Ne.symm (ne_of_none hE.here np)) (fun b' o e' => by rw [upd_ne (ne_of_none e' np), upd_ne (ne_of_none e' np)]; exact e') ⟨ep, _, upd_same, KSet.nil.to fun e => ?_⟩
        rw [g, sh_end]
        exact ⟨False.elim, fun h => g2 h.1⟩
    have hi : i < x.length := by
      have g := of_decide_eq_false (by simpa using g)
      by_cases h : i = x.length
      · exact absurd (by rw [h]) g
      · omega
    clear g
    refine seq_cut (J := fun σ' H2 => ∃ pd, σ' = [some v, some (.str x), some (.int (i : Int)), some (.ref aR), some (.ref ed), some (.ref pd), none, none, none, none, none, none, none, none, none, none] ∧ Same H H2 ∧ PDs z H2 pd (dsR R)) (fun U J => ?g1) ?g2
    case g1 =>
      refine ⟨_, rfl, aR, aO, rmK R, rmK outR, rfl, rfl, hRm.1, hO, rfl, _, rfl, ?_⟩
      rw [rmEq]
      refine ite2 (fun g2 => ?_) (fun g2 => ?_)
      · have g2 : R = outR := of_decide_eq_true g2
        refine ⟨Nat.zero_le _, fun p np => J _ _ ⟨p, rfl, Same.new np, [], upd_same, ?_⟩⟩
        unfold dsR
        rw [if_pos g2]
        exact .nil
      · have g2 : R ≠ outR := of_decide_eq_false (by simpa using g2)
        refine ⟨_, rfl, by show (1 : Nat) ≤ _; omega, fun p np => J _ _ ⟨p, rfl, Same.new np, [.ref aR], upd_same, ?_⟩⟩
        unfold dsR
        rw [if_neg g2]
        exact .cons (.tup ((Same.new np) _ _ (hRm.2 g2).1) (hRm.2 g2).2 (.cons (.int _) (.cons (.str _ (by omega)) .nil))) .nil
    case g2 =>
      rintro σ' H1 ⟨pd, rfl, s1, hPD⟩
      refine seq_hide fun U hU => ?_
      refine ⟨_, rfl, _, rfl, _, rfl, _, rfl, z, v, b, pd, dsR R, x, i, rfl, hB.same s1, R0.mono s1.x, hok, hPD, hld, fun pf ws H2 t2 npf hpf RW => hU _ _ (seq_hide fun U hU => ?_)⟩
      have s2 := s1.trans t2
      have hwl : ws.length = (fitsP b (dsR R) x i).length := by have := RW.length; simpa using this
      refine ⟨_, rfl, _, .inl ⟨ws, SqL.of hpf, rfl⟩, ?_⟩
      refine ite2 (fun g => ?_) (fun g => hU _ _ ?_)
      · have hnil : fitsP b (dsR R) x i = [] := by
          refine List.eq_nil_of_length_eq_zero ?_
          cases ws with
          | nil => simp at hwl; omega
          | cons _ _ => simp at g
        refine ⟨_, rfl, _, rfl, _, rfl, _, rfl, z, v, b, pd, dsR R, x, i, rfl, R0.mono s2.x, hok, hPD.same t2, hld, hi, hx, fun p H3 t3 np hp => ?_⟩
        have s3 := s2.trans t3
        obtain ⟨l1, l2, l3, l4⟩ := plain_len b (dsR R) x i
        have l4 := l4 hi
        have hsh := fun e => sh_plain (b := b) (x := x) (R := R) (i := i) (e := e) hi hnil
        refine ⟨_, rfl, p, _, 2, _, rfl, rfl, SqT.of hp, atI_nat (j := 2) rfl, rfl, _, rfl, ?_⟩
        generalize plainL b (dsR R) x i = st at *
        refine ite2 (fun g2 => ?_) (fun g2 => ?_)
        · have g2 : st.2.2.1 = Str.ofString "cut" := by
            have g2 := of_decide_eq_true g2
            injection g2
          refine fun pe npe => ⟨pe, _, rfl, upd_same, fun ep => ?_⟩
          refine q pe _ (Ne.symm (ne_of_none (s3 _ _ hE.here) npe)) (fun b' o e' => ?_) ⟨ep, _, upd_same, KSet.nil.to fun e => ?_⟩
          · have e3 := s3 _ _ e'
            rw [upd_ne (ne_of_none e3 npe), upd_ne (ne_of_none e3 npe)]
            exact e3
          · rw [hsh]
            exact ⟨False.elim, fun h => h.1 g2⟩
        · have g2 : st.2.2.1 ≠ Str.ofString "cut" := fun g3 => g2 (decide_eq_true (by rw [g3]))
          have ej : (i : Int) + st.2.1 = ((i + st.2.1.toNat : Nat) : Int) := by omega
          generalize i + st.2.1.toNat = j at *
          refine ⟨_, rfl, _, rfl, _, rfl, _, rfl, p, _, 1, _, rfl, rfl, SqT.of hp, atI_nat (j := 1) rfl, _, _, rfl, rfl, by show (2 : Nat) ≤ _; omega, fun pt npt => ?_⟩
          have t4 := Same.new (o := .tup [.ref aR, .int ((i : Int) + st.2.1)]) npt
          have hpt : upd H3 pt (.tup [.ref aR, .int ((i : Int) + st.2.1)]) pt = some (.tup [.ref aR, .int (j : Int)]) := by rw [upd_same, ej]
          have s4 := s3.trans t4
          generalize upd H3 pt (.tup [.ref aR, .int ((i : Int) + st.2.1)]) = H4 at *
          have E4 := hE.same s4
          obtain ⟨d, hde, hd, hEd⟩ := E4.at_ R hR j (by omega) (by omega)
          refine ⟨ed, pt, keE R j, kvs, _, rfl, rfl, E4.here, E4.keys, key_at (z := z) (hRm.same s4).1 hpt, rfl, hd, ?_⟩
          obtain ⟨ep, kv, h1, h2⟩ := hEd
          exact q d H4 hde s4 ⟨ep, kv, h1, h2.to fun e => by rw [hsh]; exact ⟨fun h => ⟨g2, h⟩, fun h => h.2⟩⟩
      · have hne : fitsP b (dsR R) x i ≠ [] := fun e => by
          rw [e] at hwl
          rw [List.eq_nil_of_length_eq_zero hwl] at g
          simp at g
        have hfl : (fitsP b (dsR R) x i).length ≤ 10 := Nat.le_trans (List.length_filter_le _ _) (possL_few htok)
        refine seq_hide fun U hU => ?_
        refine fun fo nfo => hU _ _ (seq_hide fun U hU => ?_)
        have t3 := Same.new (o := .dK []) nfo
        have s3 := s2.trans t3
        have hfo : upd H2 fo (.dK []) fo = some (.dK []) := upd_same
        have hpf3 := t3 _ _ hpf
        have RW3 := RW.mono t3.x (z := z)
        have nfo0 : H fo = none := s2.free nfo
        generalize upd H2 fo (.dK []) = H3 at *
        refine ⟨_, rfl, pf, rfl, ⟨_, SqL.of hpf3⟩, for_list (K := K) (a := pf) (xs := ws) (fun j σ H4 => ∃ kv u9 u10 u11 u12 u13 u14 u15, σ = [some v, some (.str x), some (.int (i : Int)), some (.ref aR), some (.ref ed), some (.ref pd), some (.ref pf), none, some (.ref fo), u9, u10, u11, u12, u13, u14, u15] ∧ SameX fo H3 H4 ∧ H4 fo = some (.dK kv) ∧ KSet kv fun e => ∃ y ∈ (fitsP b (dsR R) x i).take j, via b x R i y e)
          ⟨[], _, _, _, _, _, _, _, rfl, .refl, hfo, KSet.nil.to fun e => ⟨False.elim, fun ⟨y, h, _⟩ => by simp at h⟩⟩ (fun j σ H4 _ ⟨_, _, _, _, _, _, _, _, _, s, _⟩ => SqL.of (s _ _ (ne_of hpf3 hfo (by intro e; cases e)) hpf3)) ?_ ?_⟩
        · rintro j y σ H4 hj ⟨kv, u9, u10, u11, u12, u13, u14, u15, rfl, sx4, hfo4, hK⟩
          have hjl : j < (fitsP b (dsR R) x i).length := by have := (List.getElem?_eq_some_iff.mp hj).1; omega
          have ey : y = ws.getD j .non := by rw [List.getD_eq_getElem?_getD, hj]; rfl
          obtain ⟨a, u, e, haz, ha, hl, Ru⟩ := rep_mk (reps_mk (ms := fitsP b (dsR R) x i) (i := j) RW3 hjl)
          have ha4 := sx4 _ _ (ne_of ha hfo (by intro e; cases e)) ha
          have s4 : Same H H4 := fun b' o e' => sx4 _ _ (ne_of_none e' nfo0) (s3 _ _ e')
          have hym : (fitsP b (dsR R) x i).getD j mk0 ∈ fitsP b (dsR R) x i := getD_mem mk0 hjl
          have htk : (fitsP b (dsR R) x i).take (j + 1) = (fitsP b (dsR R) x i).take j ++ [(fitsP b (dsR R) x i).getD j mk0] := by
            rw [List.take_add_one, List.getElem?_eq_getElem hjl, getD_mem' mk0 hjl]
            rfl
          have hkl := hK.len (n := x.length) fun e ⟨y, hy, h⟩ => via_le htok (List.mem_of_mem_take hy) h
          have hyl := fits_len hym
          have hysm := poss_sm htok hld (List.mem_filter.mp hym).1
          rw [ey, e]
          generalize hMK : (fitsP b (dsR R) x i).getD j mk0 = mk at *
          obtain ⟨m, o⟩ := mk
          refine ⟨a, _, rfl, SqT.of ha4, rfl, _, _, rfl, _, _, rfl, rfl, ?_⟩
          refine ⟨_, rfl, _, rfl, m, rfl, by have : m.length ≤ 1000 := hl; omega, _, _, rfl, rfl, ?_⟩
          have eb : (i : Int) + (m.length : Int) = ((i + m.length : Nat) : Int) := by omega
          cases o with
          | none =>
            cases Ru
            refine ⟨_, rfl, rfl, _, rfl, iteT ?_⟩
            refine ⟨_, rfl, _, rfl, fo, _, rfl, DPut.k (k := .inl ((i : Int) + (m.length : Int))) hfo4 (by omega), ?_⟩
            refine ⟨_, _, _, _, _, _, _, _, rfl, fun b' o hn e' => by rw [upd_ne hn]; exact sx4 _ _ hn e', upd_same, ?_⟩
            rw [eb]
            refine (hK.put (i + m.length) (.bl true)).to fun e => ?_
            rw [htk]
            constructor
            · rintro (⟨y, hy, h⟩ | h)
              · exact ⟨y, List.mem_append_left _ hy, h⟩
              · exact ⟨_, List.mem_append_right _ List.mem_cons_self, h⟩
            · rintro ⟨y, hy, h⟩
              rcases List.mem_append.mp hy with hy | hy
              · exact .inl ⟨y, hy, h⟩
              · rw [List.mem_singleton.mp hy] at h
                exact .inr h
          | some D =>
            obtain ⟨aD, rfl, _, haD, hDl⟩ := rep_doorL Ru
            have haD4 := sx4 _ _ (ne_of haD hfo (by intro e; cases e)) haD
            obtain ⟨tD, htD, hDt⟩ := fits_door hbk hb1 htok hym
            have hDr : D.2 ∈ rs := hrs.all tD htD D hDt
            have h1m : 1 ≤ m.length := hysm.1
            have him : i + m.length ≤ x.length := hyl
            refine ⟨_, rfl, rfl, _, rfl, iteF ?_⟩
            refine seq_hide fun U hU => ?_
            refine ⟨_, rfl, aD, _, rfl, SqT.of haD4, rfl, _, _, rfl, _, _, rfl, _, _, rfl, rfl, hU _ _ ?_⟩
            refine ⟨_, rfl, _, rfl, _, rfl, by show (2 : Nat) ≤ _; omega, fun pi npi => ?_⟩
            have t5 := Same.new (o := .tup [.int D.2.1, .str D.2.2]) npi
            have hpi : upd H4 pi (.tup [.int D.2.1, .str D.2.2]) pi = some (.tup [.int D.2.1, .str D.2.2]) := upd_same
            have hfo5 := t5 _ _ hfo4
            have sx5 := sx4.trans t5.x
            have s5 := s4.trans t5
            generalize upd H4 pi (.tup [.int D.2.1, .str D.2.2]) = H5 at *
            refine ⟨_, rfl, by show (2 : Nat) ≤ _; omega, fun pt npt => ?_⟩
            have t6 := Same.new (o := .tup [.ref pi, .int ((i : Int) + (m.length : Int))]) npt
            have hpt : upd H5 pt (.tup [.ref pi, .int ((i : Int) + (m.length : Int))]) pt = some (.tup [.ref pi, .int ((i + m.length : Nat) : Int)]) := by rw [upd_same, eb]
            have hpi6 := t6 _ _ hpi
            have hfo6 := t6 _ _ hfo5
            have sx6 := sx5.trans t6.x
            have s6 := s5.trans t6
            generalize upd H5 pt (.tup [.ref pi, .int ((i : Int) + (m.length : Int))]) = H6 at *
            have E6 := hE.same s6
            obtain ⟨dB, _, hdB, ep, kvB, hB6, hKB⟩ := E6.at_ D.2 hDr (i + m.length) (by omega) him
            refine ⟨ed, pt, keE D.2 (i + m.length), kvs, _, rfl, rfl, E6.here, E6.keys, key_at (z := z) (SqT.of hpi6) hpt, rfl, hdB, dB, ep, kvB, rfl, hB6, ?_⟩
            have hBfo : dB ≠ fo := ne_of hB6 hfo6 (by intro e; cases e)
            refine for_dict (P := P) (w := w) (d := dB) (ep := ep) (kvs := kvB) (fun n σ H7 => ∃ kv2 u15, σ = [some v, some (.str x), some (.int (i : Int)), some (.ref aR), some (.ref ed), some (.ref pd), some (.ref pf), none, some (.ref fo), some (.str m), some (.ref aD), some (.int ((i : Int) + (m.length : Int))), some (.str D.1), some (.int D.2.1), some (.str D.2.2), u15] ∧ SameX fo H6 H7 ∧ H7 fo = some (.dK kv2) ∧ KSet kv2 fun e => (∃ y ∈ (fitsP b (dsR R) x i).take j, via b x R i y e) ∨ ∃ k : Nat, Sum.inl (k : Int) ∈ (kvB.take n).map (·.1) ∧ Sh b x R k e)
              ⟨kv, _, rfl, .refl, hfo6, hK.to fun e => ⟨.inl, fun h => h.elim id fun ⟨k, hk, _⟩ => by simp at hk⟩⟩ (fun n σ H7 _ ⟨_, _, _, s, _⟩ => s _ _ hBfo hB6) (fun n p σ H7 hn ⟨kv2, u15, hσ, sx7, hfo7, hK2⟩ => ?_) (fun σ H7 ⟨kv2, u15, hσ, sx7, hfo7, hK2⟩ => ?_)
            · subst hσ
              obtain ⟨k, hk, hS⟩ := hKB.at (List.mem_of_getElem? hn)
              obtain ⟨hk1, hk2, _⟩ := sh_cn htok hS
              have s7 : Same H H7 := fun b' o e' => sx7 _ _ (ne_of_none e' nfo0) (s6 _ _ e')
              have hk2l := hK2.len (n := x.length) fun e h => by
                rcases h with ⟨y, hy, h⟩ | ⟨k, _, h⟩
                · exact via_le htok (List.mem_of_mem_take hy) h
                · exact (sh_cn htok h).1
              rw [hk]
              refine ⟨_, rfl, fo, rfl, .inl ⟨_, .inl hfo7⟩, _, rfl, _, rfl, _, rfl, by show (2 : Nat) ≤ _; omega, fun pk npk => ?_⟩
              have t8 := Same.new (o := .tup [.ref aR, .int (k : Int)]) npk
              have hpk : upd H7 pk (.tup [.ref aR, .int (k : Int)]) pk = some (.tup [.ref aR, .int (k : Int)]) := upd_same
              have hfo8 := t8 _ _ hfo7
              have sx8 := sx7.trans t8.x
              have s8 := s7.trans t8
              have E8 := hE.same s8
              obtain ⟨dC, _, hdC, epC, kvC, hC8, hKC⟩ := E8.at_ R hR k (by omega) hk1
              have hkcl := hKC.len (n := x.length) fun e h => (sh_cn htok h).1
              refine ⟨ed, pk, keE R k, kvs, _, rfl, rfl, E8.here, E8.keys, key_at (z := z) (hRm.same s8).1 hpk, rfl, hdC, dC, kv2, epC, kvC, rfl, ne_of hfo8 hC8 (by intro e; cases e), hfo8, hC8, by omega, ?_⟩
              refine ⟨_, _, rfl, fun b' o hn' e' => by rw [upd_ne hn']; exact sx8 _ _ hn' e', upd_same, (hK2.merge hKC).to fun e => ?_⟩
              have hnl := (List.getElem?_eq_some_iff.mp hn).1
              have htk2 : (kvB.take (n + 1)).map (·.1) = (kvB.take n).map (·.1) ++ [Sum.inl (k : Int)] := by
                rw [List.take_add_one, hn, List.map_append]
                show _ ++ [p.1] = _
                rw [hk]
              rw [htk2]
              constructor
              · rintro ((h | ⟨k2, h1, h2⟩) | h)
                · exact .inl h
                · exact .inr ⟨k2, List.mem_append_left _ h1, h2⟩
                · exact .inr ⟨k, List.mem_append_right _ List.mem_cons_self, h⟩
              · rintro (h | ⟨k2, h1, h2⟩)
                · exact .inl (.inl h)
                · rcases List.mem_append.mp h1 with h1 | h1
                  · exact .inl (.inr ⟨k2, h1, h2⟩)
                  · have h1 := List.mem_singleton.mp h1
                    injection h1 with h1
                    have : k2 = k := by omega
                    rw [this] at h2
                    exact .inr h2
            · subst hσ
              refine ⟨kv2, _, _, _, _, _, _, _, rfl, sx6.trans sx7, hfo7, hK2.to fun e => ?_⟩
              rw [htk, List.take_length]
              constructor
              · rintro (⟨y, hy, h⟩ | ⟨k, h1, h2⟩)
                · exact ⟨y, List.mem_append_left _ hy, h⟩
                · obtain ⟨k2, e2, h3⟩ := (hKB.iff _).mp h1
                  injection e2 with e2
                  have : k = k2 := by omega
                  rw [this] at h2
                  exact ⟨_, List.mem_append_right _ List.mem_cons_self, k2, h3, h2⟩
              · rintro ⟨y, hy, h⟩
                rcases List.mem_append.mp hy with hy | hy
                · exact .inl ⟨y, hy, h⟩
                · rw [List.mem_singleton.mp hy] at h
                  obtain ⟨k, h3, h2⟩ := h
                  exact .inr ⟨k, (hKB.iff _).mpr ⟨k, rfl, h3⟩, h2⟩
        · rintro σ H4 ⟨kv, u9, u10, u11, u12, u13, u14, u15, rfl, sx4, hfo4, hK⟩
          have s4 : Same H H4 := fun b' o e' => sx4 _ _ (ne_of_none e' nfo0) (s3 _ _ e')
          refine hU _ _ ⟨_, rfl, fo, kv, rfl, hfo4, fun ep => ?_⟩
          refine q fo _ (Ne.symm (ne_of_none hE.here nfo0)) (fun b' o e' => ?_) ⟨ep, kv, upd_same, hK.to fun e => ?_⟩
          · rw [upd_ne (ne_of_none e' nfo0)]
            exact s4 _ _ e'
          · rw [sh_mark hi hne, hwl, List.take_length]
end
end T1
namespace T1
open PySem L2
theorem nval_none {kvs : List NEnt} {k : List NKey} (h : ∀ p ∈ kvs, p.1 ≠ k) : nval kvs k = none := by
  unfold nval
  have : (kvs.find? fun p => decide (p.1 = k)) = none := List.find?_eq_none.mpr fun p hp g => h p hp (of_decide_eq_true g)
  rw [this]
  rfl
theorem sqT_but {K : PySem.W.Frag} {H H' : Hp} {a ed : Addr} {xs : List V} {P : Program} {w : World} {sh : List Bool} {kvs : List NEnt} (he : H ed = some (dN P w sh ed kvs)) (s : SameX ed H H') (h : SqT K H a xs) : SqT K H' a xs := by
  rcases h with (h | ⟨o, h⟩) | h
  · exact .inl (.inl (s _ _ (ne_of h he (by intro e; cases e)) h))
  · exact .inl (.inr ⟨o, s _ _ (ne_of h he (by intro e; cases e)) h⟩)
  · exact .inr h
theorem keyW_but {K : PySem.W.Frag} {H H' : Hp} {a ed : Addr} {ks : List NKey} {P : Program} {w : World} {sh : List Bool} {kvs : List NEnt} (he : H ed = some (dN P w sh ed kvs)) (s : SameX ed H H') (h : NKeyW K H ks a) : NKeyW K H' ks a := by
  obtain ⟨vs, e, r⟩ := h
  refine ⟨vs, s _ _ (ne_of e he (by intro e; cases e)) e, ?_⟩
  clear e
  induction r with
  | nil => exact .nil
  | @cons x v xs vs h1 _ ih =>
    refine .cons ?_ ih
    cases x with
    | inl _ => exact h1
    | inr l => obtain ⟨d, e, h2⟩ := h1; exact ⟨d, e, sqT_but he s h2⟩
structure EndsN (P : Program) (w : World) (K : PySem.W.Frag) (H : Hp) (ed : Addr) (b : Bk) (x : Str) (rs : List Rm) (i m : Nat) (kvs : List NEnt) : Prop where
  base : EndsD P w K H ed b x rs (i + 1) kvs
  now : ∀ R ∈ rs.take m, ∃ d, d ≠ ed ∧ nval kvs (keE R i) = some (.ref d) ∧ EndAt P w H d b x R i
  only : ∀ p ∈ kvs, ∃ R j, p.1 = keE R j ∧ (i < j ∨ j = i ∧ R ∈ rs.take m)
  few : kvs.length ≤ rs.length * (x.length - i) + m
section
variable {P : Program} {w : World} {K : PySem.W.Frag} {mg : Str → Option Value} {base : Heap}
theorem EndsN.same {H H' : Hp} {ed : Addr} {b : Bk} {x : Str} {rs : List Rm} {i m : Nat} {kvs : List NEnt} (h : EndsN P w K H ed b x rs i m kvs) (s : Same H H') : EndsN P w K H' ed b x rs i m kvs := ⟨h.base.same s, fun R hR => let ⟨d, g0, g1, g2⟩ := h.now R hR; ⟨d, g0, g1, g2.same s⟩, h.only, h.few⟩
theorem EndsN.fresh {H : Hp} {ed : Addr} {b : Bk} {x : Str} {rs : List Rm} {i m : Nat} {kvs : List NEnt} (h : EndsN P w K H ed b x rs i m kvs) (hn : rs.Nodup) (hm : m < rs.length) : nval kvs (keE (rs.getD m outR) i) = none := nval_none fun p hp e => by
  obtain ⟨R, j, e2, h2⟩ := h.only p hp
  rw [e2] at e
  obtain ⟨e3, e4⟩ := keE_inj e
  rcases h2 with h2 | ⟨_, h2⟩
  · omega
  · rw [e3, getD_mem' outR hm] at h2
    obtain ⟨n, hn1, hn2⟩ := List.mem_take_iff_getElem.mp h2
    have := (List.getElem_inj (h₀ := by omega) (h₁ := hm) hn).mp hn2
    omega
theorem EndsN.put {H : Hp} {ed d r : Addr} {b : Bk} {x : Str} {rs : List Rm} {i m : Nat} {kvs : List NEnt} (h : EndsN P w K H ed b x rs i m kvs) (hn : rs.Nodup) (hm : m < rs.length) (hd : d ≠ ed) (hE : EndAt P w H d b x (rs.getD m outR) i) (hk : NKeyW K H (keE (rs.getD m outR) i) r) :
    EndsN P w K (upd H ed (dN P w shE ed (kvs ++ [(keE (rs.getD m outR) i, r, .ref d)]))) ed b x rs i (m + 1) (kvs ++ [(keE (rs.getD m outR) i, r, .ref d)]) := by
  have hf := h.fresh hn hm
  have sx : SameX ed H (upd H ed (dN P w shE ed (kvs ++ [(keE (rs.getD m outR) i, r, .ref d)]))) := fun b' o hne e' => by rw [upd_ne hne]; exact e'
  have endB : ∀ {d R j}, d ≠ ed → EndAt P w H d b x R j → EndAt P w (upd H ed (dN P w shE ed (kvs ++ [(keE (rs.getD m outR) i, r, .ref d)]))) d b x R j := fun hne ⟨ep, kv, h1, h2⟩ => ⟨ep, kv, by rw [upd_ne hne]; exact h1, h2⟩
  have htk : rs.take (m + 1) = rs.take m ++ [rs.getD m outR] := by
    rw [List.take_add_one, List.getElem?_eq_getElem hm, getD_mem' outR hm]
    rfl
  have hin : rs.getD m outR ∈ rs := getD_mem outR hm
  refine ⟨⟨upd_same, fun p hp => ?_, fun R hR j h1 h2 => ?_⟩, fun R hR => ?_, fun p hp => ?_, ?_⟩
  · rcases List.mem_append.mp hp with hp | hp
    · exact ⟨keyW_but h.base.here sx (h.base.keys p hp).1, (h.base.keys p hp).2⟩
    · rw [List.mem_singleton.mp hp]
      exact ⟨keyW_but h.base.here sx hk, rfl⟩
  · obtain ⟨d', g0, g1, ep, kv, g2, g3⟩ := h.base.at_ R hR j h1 h2
    refine ⟨d', g0, ?_, ep, kv, by rw [upd_ne g0]; exact g2, g3⟩
    rw [nval_snoc hf, if_neg (fun e => by have := (keE_inj e).2; omega)]
    exact g1
  · rw [htk] at hR
    by_cases e : R = rs.getD m outR
    · rw [e]
      obtain ⟨ep, kv, g2, g3⟩ := hE
      exact ⟨d, hd, by rw [nval_snoc hf, if_pos rfl], ep, kv, by rw [upd_ne hd]; exact g2, g3⟩
    · obtain ⟨d', g0, g1, ep, kv, g2, g3⟩ := h.now R ((List.mem_append.mp hR).resolve_right fun g => e (List.mem_singleton.mp g))
      refine ⟨d', g0, ?_, ep, kv, by rw [upd_ne g0]; exact g2, g3⟩
      rw [nval_snoc hf, if_neg (fun g => e (keE_inj g).1)]
      exact g1
  · rw [htk]
    rcases List.mem_append.mp hp with hp | hp
    · obtain ⟨R, j, e1, e2⟩ := h.only p hp
      exact ⟨R, j, e1, e2.imp id fun e2 => ⟨e2.1, List.mem_append_left _ e2.2⟩⟩
    · rw [List.mem_singleton.mp hp]
      exact ⟨_, _, rfl, .inr ⟨rfl, List.mem_append_right _ List.mem_cons_self⟩⟩
  · rw [List.length_append]
    have := h.few
    show _ + 1 ≤ _
    omega
theorem EndsN.done {H : Hp} {ed : Addr} {b : Bk} {x : Str} {rs : List Rm} {i : Nat} {kvs : List NEnt} (h : EndsN P w K H ed b x rs i rs.length kvs) : EndsD P w K H ed b x rs i kvs ∧ (∀ p ∈ kvs, ∃ R j, p.1 = keE R j ∧ i ≤ j) := by
  refine ⟨⟨h.base.here, h.base.keys, fun R hR j h1 h2 => ?_⟩, fun p hp => ?_⟩
  · by_cases e : j = i
    · rw [e]
      exact h.now R (by rw [List.take_length]; exact hR)
    · exact h.base.at_ R hR j (by omega) h2
  · obtain ⟨R, j, e1, e2⟩ := h.only p hp
    exact ⟨R, j, e1, by rcases e2 with e2 | e2 <;> omega⟩
inductive spAllEnds (P : Program) (w : World) (K : PySem.W.Frag) : List V → Hp → VK → XK → Prop where
  | mk {vs : List V} {H : Hp} {Q : VK} {E : XK} (z v b x : _) (c1 : vs = [v, .str x]) (c2 : Bag z H) (c3 : Rep z H v (bkD b)) (c4 : BkOk b) (c5 : x.length ≤ 20000)
    (q : ∀ ed rs kvs H', Same H H' → RmsOk b rs → EndsD P w K H' ed b x rs 0 kvs → Q (.ref ed) H') : spAllEnds P w K vs H Q E
theorem scAllEnds : FnScope ["book", "text", "rooms", "ends", "place", "room"] ["book", "text"] (defScope sAllEnds) := ⟨rfl, rfl, rfl, by decide +kernel, rfl, by decide +kernel, by decide +kernel⟩
set_option maxHeartbeats 0 in
theorem ok_allEnds {f f1 f2 : Addr} {fd fd1 fd2 : FuncData} (F : Fun K "all_ends" "all_ends" sAllEnds f fd) (T : TxtB mg) (hrv : mg "reversed" = none)
    (k1 : PySem.W.keepIn K (.ref f1) = true) (b1 : Binds K fd1 ["book"] []) (m1 : mg "rooms_of" = some (.ref f1)) (G1 : FnOk P w K mg base CX0 1 f1 fd1 ["book"] (spRooms K))
    (k2 : PySem.W.keepIn K (.ref f2) = true) (b2 : Binds K fd2 ["book", "text", "place", "room", "ends"] []) (m2 : mg "ends_from" = some (.ref f2)) (G2 : FnOk P w K mg base CX0 4 f2 fd2 ["book", "text", "place", "room", "ends"] (spEnds P w K)) : FnOk P w K mg base CX0 5 f fd ["book", "text"] (spAllEnds P w K) := by
  refine F.ok scAllEnds (fun vs H Q E h => ?_) (fun cdv A outer s H vs Q E hr h => ?_)
  · obtain ⟨z, v, b, x, rfl, _⟩ := h
    rfl
  · obtain ⟨z, v, b, x, rfl, hB, R0, hok, hx, q⟩ := h
    have nd := scAllEnds.nd
    have hu : (A.deeper (PyProof.Rows.envOfC (Str.ofString "all_ends") (defScope sAllEnds) s.heap.objs.size f cdv)).units + 6 < cLine := by have := hr.un; omega
    refine ⟨_, pss_cons (ps_set (i := 2) nd rfl (Or.inl rfl) (pe_call (G1.mono (by omega)) hr rfl m1 k1 b1 .nil pass0 (pa_cons (pv 0) pa_nil)))
      (pss_cons (ps_set (i := 3) nd rfl (Or.inl rfl) (pe_dnewN shE))
      (pss_cons (ps_for PassesOwn.never rfl (pi_revRange rfl hrv rfl T.range (pa_cons (pe_op op_add (pe_callB call_len_str (by rfl) T.len b_len (pa_cons (pv 1) pa_nil)) pe_int) pa_nil)) (pg_name (i := 4) nd rfl (Or.inl rfl))
        (pss_one (ps_for PassesOwn.never rfl (pi_list (pv 2)) (pg_name (i := 5) nd rfl (Or.inl rfl))
          (pss_one (ps_asg (pe_call G2 hr rfl m2 k2 b2 .nil pass0 (pa_cons (pv 0) (pa_cons (pv 1) (pa_cons (pv 4) (pa_cons (pv 5) (pa_cons (pv 3) pa_nil)))))) (pg_sub (pv 3) (pe_tup (pa_cons (pv 5) (pa_cons (pv 4) pa_nil))) (set_W hu shE)))))))
      (pss_one (ps_ret (pv 3))))), ?_⟩
    dsimp only [cxOf, Cx.nox, Cx.wish]
    have big := big1000
    have big2 : (100000 : Nat) ≤ sizeLine := by rw [sizeLine_eq]; decide
    have bigS := sizeLine_eq
    obtain ⟨hb1, hb6, htok, hbB⟩ := id hok
    refine seq_hide fun U hU => ?_
    refine ⟨_, rfl, z, v, b, rfl, hB, R0, hok, fun pr as rs H1 s1 npr hpr RA RO => hU _ _ (seq_hide fun U hU => ?_)⟩
    refine fun ed ned => hU _ _ (seq_hide fun U hU => ?_)
    have t2 := Same.new (o := dN P w shE ed []) ned
    have hed : upd H1 ed (dN P w shE ed []) ed = some (dN P w shE ed []) := upd_same
    generalize upd H1 ed (dN P w shE ed []) = H2 at *
    have few := RO.few
    refine ⟨_, rfl, x, rfl, by omega, _, _, rfl, rfl, x.length + 1, by show [V.int ((x.length : Int) + 1)] = _; rfl, by omega, ?_⟩
    refine for_range3 (fun t σ H3 => ∃ kvs u4 u5, σ = [some v, some (.str x), some (.ref pr), some (.ref ed), u4, u5] ∧ Same H1 H3 ∧ EndsD P w K H3 ed b x rs (x.length + 1 - t) kvs ∧ (∀ p ∈ kvs, ∃ R j, p.1 = keE R j ∧ x.length + 1 - t ≤ j) ∧ kvs.length ≤ rs.length * t)
      ⟨[], _, _, rfl, t2, ⟨hed, fun p hp => (nomatch hp), fun R _ j h1 h2 => absurd h1 (by omega)⟩, fun p hp => (nomatch hp), Nat.zero_le _⟩ (fun t σ H3 ht ⟨kvs, u4, u5, hσ, s3, hE, hon, hfew⟩ => ?_) (fun σ H3 ⟨kvs, u4, u5, hσ, s3, hE, hon, hfew⟩ => ?_)
    · subst hσ
      have ei : (((x.length + 1 : Nat) : Int) - 1 + (t : Int) * (-1)) = ((x.length - t : Nat) : Int) := by omega
      rw [ei]
      have e2 : x.length + 1 - t = x.length - t + 1 := by omega
      have e3 : x.length - (x.length - t) = t := by omega
      have e4 : x.length + 1 - (t + 1) = x.length - t := by omega
      have hil : x.length - t ≤ x.length := by omega
      rw [e2] at hE hon
      rw [e4]
      generalize x.length - t = i at *
      refine ⟨_, rfl, pr, rfl, ⟨_, SqL.of (s3 _ _ hpr)⟩, for_list (K := K) (a := pr) (xs := as.map V.ref) (fun m σ H4 => ∃ kvs u5, σ = [some v, some (.str x), some (.ref pr), some (.ref ed), some (.int (i : Int)), u5] ∧ Same H1 H4 ∧ EndsN P w K H4 ed b x rs i m kvs)
        ⟨kvs, _, rfl, s3, hE, fun R hR => (by simp at hR), fun p hp => let ⟨R, j, h1, h2⟩ := hon p hp; ⟨R, j, h1, .inl h2⟩, by rw [e3]; exact hfew⟩ (fun m σ H4 _ ⟨_, _, _, s, _⟩ => SqL.of (s _ _ hpr)) ?_ ?_⟩
      · rintro m y σ H4 hm ⟨kvs, u5, rfl, s4, hN⟩
        have hml : m < as.length := by have := (List.getElem?_eq_some_iff.mp hm).1; simpa using this
        have hmr : m < rs.length := by rw [← RA.len]; exact hml
        have ey : y = .ref as[m] := by
          rw [List.getElem?_map, List.getElem?_eq_getElem hml] at hm
          injection hm with hm
          exact hm.symm
        subst ey
        have hRm := RA.at_ m hml
        have hin : rs.getD m outR ∈ rs := getD_mem outR hmr
        have s04 := s1.trans s4
        have hmul : rs.length * (x.length - i) ≤ 100 * 20000 := Nat.mul_le_mul few (by omega)
        have hkf := hN.few
        refine ⟨_, rfl, _, rfl, _, rfl, _, rfl, _, rfl, z, v, b, x, rs, rs.getD m outR, i, as[m], ed, kvs, rfl, hB.same s04, R0.mono s04.x, hok, RO, hin, hRm.same s4, hil, hx, hN.base, fun d H5 hde t5 hEd => ?_⟩
        refine ⟨_, rfl, _, rfl, _, rfl, by show (2 : Nat) ≤ _; omega, fun pt npt => ?_⟩
        have t6 := Same.new (o := .tup [.ref as[m], .int (i : Int)]) npt
        have hpt : upd H5 pt (.tup [.ref as[m], .int (i : Int)]) pt = some (.tup [.ref as[m], .int (i : Int)]) := upd_same
        have s6 := (s4.trans t5).trans t6
        have N6 := hN.same (t5.trans t6)
        have E6 := hEd.same t6
        generalize upd H5 pt (.tup [.ref as[m], .int (i : Int)]) = H6 at *
        have hkey := key_at (z := z) (i := i) (hRm.same s6).1 hpt
        refine ⟨ed, pt, keE (rs.getD m outR) i, kvs, rfl, rfl, N6.base.here, N6.base.keys, hkey, rfl, N6.fresh RO.nd hmr, by omega, ?_⟩
        exact ⟨_, _, rfl, fun b' o e' => by rw [upd_ne (ne_of_none e' ned)]; exact s6 _ _ e', N6.put RO.nd hmr hde E6 hkey⟩
      · rintro σ H4 ⟨kvs, u5, rfl, s4, hN⟩
        rw [List.length_map, RA.len] at hN
        obtain ⟨g1, g2⟩ := hN.done
        refine ⟨kvs, _, _, rfl, s4, g1, g2, ?_⟩
        have := hN.few
        rw [e3] at this
        rw [Nat.mul_add, Nat.mul_one]
        exact this
    · subst hσ
      refine hU _ _ ⟨_, rfl, q ed rs kvs H3 (s1.trans s3) RO ?_⟩
      rw [Nat.sub_self] at hE
      exact hE
end
end T1
namespace T1
open PySem L2
def Rch (b : Bk) (x : Str) : List Rm → Nat → Nat → Prop
  | [], i, e => e = i
  | R :: rs, i, e => ∃ k, Sh b x R i k ∧ Rch b x rs k e
theorem rch_chain {b : Bk} {x : Str} : ∀ {rs : List Rm} {i : Nat}, Chain b x rs i ↔ ∃ e, Rch b x rs i e
  | [], i => ⟨fun _ => ⟨i, rfl⟩, fun _ => trivial⟩
  | R :: rs, i => by
    constructor
    · rintro ⟨k, h1, h2⟩
      obtain ⟨e, h3⟩ := rch_chain.mp h2
      exact ⟨e, k, h1, h3⟩
    · rintro ⟨e, k, h1, h2⟩
      exact ⟨k, h1, rch_chain.mpr ⟨e, h2⟩⟩
theorem rch_snoc {b : Bk} {x : Str} {R : Rm} : ∀ {rs : List Rm} {i e : Nat}, Rch b x (rs ++ [R]) i e ↔ ∃ k, Rch b x rs i k ∧ Sh b x R k e
  | [], i, e => by
    constructor
    · rintro ⟨k, h1, h2⟩
      have h2 : e = k := h2
      rw [h2]
      exact ⟨i, rfl, h1⟩
    · rintro ⟨k, h1, h2⟩
      have h1 : k = i := h1
      rw [h1] at h2
      exact ⟨e, h2, rfl⟩
  | S :: rs, i, e => by
    constructor
    · rintro ⟨k, h1, h2⟩
      obtain ⟨k2, h3, h4⟩ := rch_snoc.mp h2
      exact ⟨k2, ⟨k, h1, h3⟩, h4⟩
    · rintro ⟨k2, ⟨k, h1, h3⟩, h4⟩
      exact ⟨k, h1, rch_snoc.mpr ⟨k2, h3, h4⟩⟩
theorem rch_le {b : Bk} {x : Str} (hb : ∀ t ∈ b, TgOk b.length t) : ∀ {rs : List Rm} {i e : Nat}, i ≤ x.length → Rch b x rs i e → e ≤ x.length
  | [], i, e, hi, h => by
    have h : e = i := h
    omega
  | R :: rs, i, e, hi, ⟨k, h1, h2⟩ => rch_le hb (sh_cn hb h1).1 h2
theorem KSet.ints {kv : List (Key × V)} {S : Nat → Prop} (h : KSet kv S) : ∃ ns : List Nat, (kv.map fun p => kV p.1) = ns.map (fun e : Nat => V.int (e : Int)) ∧ (∀ e, e ∈ ns ↔ S e) ∧ ns.length = kv.length := by
  have key : ∀ kv : List (Key × V), (∀ k ∈ kv.map (·.1), ∃ e : Nat, k = .inl (e : Int)) → ∃ ns : List Nat, (kv.map fun p => kV p.1) = ns.map (fun e : Nat => V.int (e : Int)) ∧ kv.map (·.1) = ns.map (fun e : Nat => (Sum.inl (e : Int) : Key)) := by
    intro kv
    induction kv with
    | nil => intro _; exact ⟨[], rfl, rfl⟩
    | cons p r ih =>
      intro g
      obtain ⟨ns, h1, h2⟩ := ih fun k hk => g k (List.mem_cons_of_mem _ hk)
      obtain ⟨e, he⟩ := g p.1 List.mem_cons_self
      exact ⟨e :: ns, by rw [List.map_cons, List.map_cons, h1, he]; rfl, by rw [List.map_cons, List.map_cons, h2, he]⟩
  obtain ⟨ns, h1, h2⟩ := key kv fun k hk => let ⟨e, he, _⟩ := (h.iff k).mp hk; ⟨e, he⟩
  refine ⟨ns, h1, fun e => ?_, by have := congrArg List.length h2; simpa using this.symm⟩
  have h3 := h.iff (.inl (e : Int))
  rw [h2] at h3
  constructor
  · intro he
    obtain ⟨e', h4, h5⟩ := h3.mp (List.mem_map.mpr ⟨e, he, rfl⟩)
    injection h4 with h4
    have : e = e' := by omega
    rw [this]
    exact h5
  · intro he
    obtain ⟨e', h4, h5⟩ := List.mem_map.mp (h3.mpr ⟨e, rfl, he⟩)
    injection h5 with h5
    have : e' = e := by omega
    rw [← this]
    exact h4
theorem bk_in {b : Bk} {rs : List Rm} (h : RmsOk b rs) {ds : List LDr} (hd : LdBk b ds) {d : LDr} (hm : d ∈ ds) : d.2 ∈ rs := by
  obtain ⟨t, ht, dr, hdr, e1, e2⟩ := hd d hm
  have : d.2 = dr.2 := Prod.ext e1 e2
  rw [this]
  exact h.all t ht dr hdr
theorem rms_in {b : Bk} {rs : List Rm} (h : RmsOk b rs) {ds : List LDr} (hd : LdBk b ds) {R : Rm} (hm : R ∈ rms ds) : R ∈ rs := by
  unfold rms at hm
  rcases List.mem_append.mp hm with hm | hm
  · obtain ⟨d, hd', rfl⟩ := List.mem_map.mp (List.mem_reverse.mp hm)
    exact bk_in h hd hd'
  · rw [List.mem_singleton.mp hm]
    exact h.out
theorem rms_len (ds : List LDr) : (rms ds).length = ds.length + 1 := by
  unfold rms
  rw [List.length_append, List.length_reverse, List.length_map]
  rfl
theorem rms_at {K : PySem.W.Frag} {mg : Str → Option Value} {z aO : Addr} {H : Hp} {vs : List V} {ds : List LDr} (TO : TxO mg K aO) (r : Reps z H vs (ds.map pdD)) {t : Nat} (ht : t < ds.length + 1) {y : V} (hy : (V.ref aO :: vs)[(V.ref aO :: vs).length - 1 - t]? = some y) : ∃ a, y = .ref a ∧ RmAt K z H a ((rms ds).getD t outR) := by
  have hl : vs.length = ds.length := by have := r.length; simpa using this
  have e1 : (V.ref aO :: vs).length - 1 - t = ds.length - t := by rw [List.length_cons, hl]; omega
  rw [e1] at hy
  unfold rms
  by_cases h : t < ds.length
  · obtain ⟨n, hn⟩ : ∃ n, n = ds.length - t - 1 := ⟨_, rfl⟩
    have e2 : ds.length - t = n + 1 := by omega
    rw [e2, List.getElem?_cons_succ] at hy
    have ey : y = vs.getD n .non := by rw [List.getD_eq_getElem?_getD, hy]; rfl
    obtain ⟨a, e3, haz, ha⟩ := rep_pd (reps_pd (ds := ds) (i := n) r (by omega))
    refine ⟨a, by rw [ey, e3], ?_⟩
    have e4 : ((ds.map (·.2)).reverse ++ [outR]).getD t outR = (ds.getD n ld0).2 := by
      rw [List.getD_eq_getElem?_getD, List.getElem?_append_left (by simpa using h), List.getElem?_reverse (by simpa using h), List.length_map, List.getElem?_map]
      have : ds.length - 1 - t = n := by omega
      rw [this, List.getElem?_eq_getElem (by omega), getD_mem' ld0 (by omega)]
      rfl
    rw [e4]
    exact ⟨SqT.of ha, fun _ => ⟨ha, haz⟩⟩
  · have e2 : ds.length - t = 0 := by omega
    have e3 : t = ds.length := by omega
    rw [e2] at hy
    injection hy with hy
    refine ⟨aO, hy.symm, ?_⟩
    have e4 : ((ds.map (·.2)).reverse ++ [outR]).getD t outR = outR := by
      rw [List.getD_eq_getElem?_getD, List.getElem?_append_right (by simp [e3])]
      simp [e3]
    rw [e4]
    exact TO.rm z H
inductive spCan (P : Program) (w : World) (K : PySem.W.Frag) : List V → Hp → VK → XK → Prop where
  | mk {vs : List V} {H : Hp} {Q : VK} {E : XK} (z b x ds rs : _) (i : Nat) (q ed : Addr) (kvs : _) (c1 : vs = [.int (i : Int), .ref q, .ref ed]) (c4 : BkOk b) (c5 : RmsOk b rs) (c6 : PDs z H q ds) (c7 : LdBk b ds) (c8 : i ≤ x.length) (c9 : x.length ≤ 20000) (c11 : ds.length ≤ 20000) (c10 : EndsD P w K H ed b x rs 0 kvs)
    (k : ∀ H', Same H H' → Q (.bl (decide (0 < cn b x ds i))) H') : spCan P w K vs H Q E
section
variable {P : Program} {w : World} {K : PySem.W.Frag} {mg : Str → Option Value} {base : Heap}
theorem scCan : FnScope ["place", "doors", "ends", "places", "room", "behind", "begin"] ["place", "doors", "ends"] (defScope sCanBeWhole) := ⟨rfl, rfl, rfl, by decide +kernel, rfl, by decide +kernel, by decide +kernel⟩
set_option maxHeartbeats 0 in
theorem ok_can {f aO : Addr} {fd : FuncData} (F : Fun K "can_be_whole" "can_be_whole" sCanBeWhole f fd) (TO : TxO mg K aO) (T : TxtB mg) (T2 : Txt2 mg) (hrv : mg "reversed" = none) : FnOk P w K mg base CX0 1 f fd ["place", "doors", "ends"] (spCan P w K) := by
  refine F.ok scCan (fun vs H Q E h => ?_) (fun cdv A outer s H vs Q E hr h => ?_)
  · obtain ⟨z, b, x, ds, rs, i, q, ed, kvs, rfl, _⟩ := h
    rfl
  · obtain ⟨z, b, x, ds, rs, i, q, ed, kvs, rfl, hok, RO, ⟨vs, hq, RD⟩, hbk, hi, hx, hdl, hE, k⟩ := h
    have nd := scCan.nd
    have hu : (A.deeper (PyProof.Rows.envOfC (Str.ofString "can_be_whole") (defScope sCanBeWhole) s.heap.objs.size f cdv)).units + 6 < cLine := by have := hr.un; omega
    refine ⟨_, pss_cons (ps_set (i := 3) nd rfl (Or.inl rfl) (pe_lst (pa_cons (pv 0) pa_nil)))
      (pss_cons (ps_for PassesOwn.never rfl (pi_revLst rfl hrv (pa_cons (pe_op op_cat (pe_lst (pa_cons (pe_glob (v := .ref aO) rfl TO.g rfl) pa_nil)) (pv 1)) pa_nil)) (pg_name (i := 4) nd rfl (Or.inl rfl))
        (pss_cons (ps_set (i := 5) nd rfl (Or.inl rfl) pe_dnewK)
        (pss_cons (ps_for PassesOwn.never rfl (pi_list (pv 3)) (pg_name (i := 6) nd rfl (Or.inl rfl))
          (pss_one (ps_expr (pe_dupd (pv 5) (pe_ixW hu shE (pv 2) (pe_tup (pa_cons (pv 4) (pa_cons (pv 6) pa_nil))) (fun _ _ => rfl)) ⟨rfl, rfl, rfl, rfl⟩))))
        (pss_one (ps_set (i := 3) nd rfl (Or.inl rfl) (pe_callTy (call_list_dict rfl) (by rfl) T2.list b_list (pa_cons (pv 5) pa_nil)))))))
      (pss_one (ps_ret (pe_cmpR op_gt (pe_callB call_len_seq (by rfl) T.len b_len (pa_cons (pv 3) pa_nil)) pe_int (nomark _))))), ?_⟩
    dsimp only [cxOf, Cx.nox, Cx.wish]
    have big := big1000
    have bigS := sizeLine_eq
    obtain ⟨hb1, hb6, htok, hbB⟩ := id hok
    have hvl : vs.length = ds.length := by have := RD.length; simpa using this
    refine seq_hide fun U hU => ?_
    refine ⟨_, rfl, by show (1 : Nat) ≤ _; omega, fun pl npl => hU _ _ (seq_hide fun U hU => ?_)⟩
    have t1 := Same.new (o := .lst [.int (i : Int)]) npl
    have hpl : upd H pl (.lst [.int (i : Int)]) pl = some (.lst [.int (i : Int)]) := upd_same
    generalize upd H pl (.lst [.int (i : Int)]) = H1 at *
    refine ⟨by show (1 : Nat) ≤ _; omega, fun po npo => ?_⟩
    have t2 := Same.new (o := .lst [.ref aO]) npo
    have hpo : upd H1 po (.lst [.ref aO]) po = some (.lst [.ref aO]) := upd_same
    have s2 := t1.trans t2
    have hpl2 := t2 _ _ hpl
    generalize upd H1 po (.lst [.ref aO]) = H2 at *
    refine ⟨_, rfl, po, q, _, _, rfl, rfl, hpo, s2 _ _ hq, by show 1 + vs.length ≤ _; omega, fun pc npc => ?_⟩
    have t3 := Same.new (o := .lst ([.ref aO] ++ vs)) npc
    have hpc : upd H2 pc (.lst ([.ref aO] ++ vs)) pc = some (.lst (.ref aO :: vs)) := upd_same
    have s3 := s2.trans t3
    have hpl3 := t3 _ _ hpl2
    generalize upd H2 pc (.lst ([.ref aO] ++ vs)) = H3 at *
    refine ⟨pc, .ref aO :: vs, rfl, SqL.of hpc, ?_⟩
    have hxl : (V.ref aO :: vs).length = ds.length + 1 := by rw [List.length_cons, hvl]
    refine for_revL (K := K) (a := pc) (xs := .ref aO :: vs) (fun t σ H4 => ∃ pl ns u4 u5 u6, σ = [some (.int (i : Int)), some (.ref q), some (.ref ed), some (.ref pl), u4, u5, u6] ∧ Same H3 H4 ∧ H4 pl = some (.lst (ns.map fun e : Nat => V.int (e : Int))) ∧ (∀ e, e ∈ ns ↔ Rch b x ((rms ds).take t) i e) ∧ ns.length ≤ x.length + 1)
      ⟨pl, [i], _, _, _, rfl, Same.refl _, hpl3, fun e => ?_, by show 1 ≤ _; omega⟩ (fun t σ H4 _ ⟨_, _, _, _, _, _, s, _⟩ => SqL.of (s _ _ hpc)) (fun t y σ H4 ht hy ⟨pl, ns, u4, u5, u6, hσ, s4, hpl4, hns, hnl⟩ => ?_) (fun σ H4 ⟨pl, ns, u4, u5, u6, hσ, s4, hpl4, hns, hnl⟩ => ?_)
    · show e ∈ [i] ↔ e = i
      exact List.mem_singleton
    · subst hσ
      rw [hxl] at ht
      obtain ⟨aR, rfl, hRm⟩ := rms_at TO (RD.mono (s3.trans s4).x) ht hy
      have htr : t < (rms ds).length := by rw [rms_len]; exact ht
      have hRin : (rms ds).getD t outR ∈ rs := rms_in RO hbk (getD_mem outR htr)
      have htk : (rms ds).take (t + 1) = (rms ds).take t ++ [(rms ds).getD t outR] := by
        rw [List.take_add_one, List.getElem?_eq_getElem htr, getD_mem' outR htr]
        rfl
      rw [htk]
      generalize (rms ds).getD t outR = R at *
      refine seq_hide fun U hU => ?_
      refine fun fo nfo => hU _ _ (seq_hide fun U hU => ?_)
      have t5 := Same.new (o := .dK []) nfo
      have s5 := (s3.trans s4).trans t5
      have hfo : upd H4 fo (.dK []) fo = some (.dK []) := upd_same
      have hpl5 := t5 _ _ hpl4
      generalize upd H4 fo (.dK []) = H5 at *
      have hplx : ∀ {k}, k ∈ ns → k ≤ x.length → True := fun _ _ => trivial
      refine ⟨_, rfl, pl, rfl, ⟨_, SqL.of hpl5⟩, for_list (K := K) (a := pl) (xs := ns.map fun e : Nat => V.int (e : Int)) (fun n σ H6 => ∃ kv u6, σ = [some (.int (i : Int)), some (.ref q), some (.ref ed), some (.ref pl), some (.ref aR), some (.ref fo), u6] ∧ SameX fo H5 H6 ∧ H6 fo = some (.dK kv) ∧ KSet kv fun e => ∃ k ∈ ns.take n, Sh b x R k e)
        ⟨[], _, rfl, .refl, hfo, KSet.nil.to fun e => ⟨False.elim, fun ⟨k, h, _⟩ => by simp at h⟩⟩ (fun n σ H6 _ ⟨_, _, _, s, _⟩ => SqL.of (s _ _ (ne_of hpl5 hfo (by intro e; cases e)) hpl5)) ?_ ?_⟩
      · rintro n y σ H6 hn ⟨kv, u6, rfl, sx6, hfo6, hK⟩
        have hnl2 : n < ns.length := by have := (List.getElem?_eq_some_iff.mp hn).1; simpa using this
        have ey : y = V.int ((ns[n] : Nat) : Int) := by
          rw [List.getElem?_map, List.getElem?_eq_getElem hnl2] at hn
          injection hn with hn
          exact hn.symm
        subst ey
        have hkin : ns[n] ∈ ns := List.getElem_mem hnl2
        have htk2 : ns.take (n + 1) = ns.take n ++ [ns[n]] := by
          rw [List.take_add_one, List.getElem?_eq_getElem hnl2]
          rfl
        have hkx : ns[n] ≤ x.length := rch_le htok hi ((hns _).mp hkin)
        generalize ns[n] = kk at *
        have s6 : ∀ b' o, H4 b' = some o → H6 b' = some o := fun b' o e' => sx6 _ _ (ne_of_none e' nfo) (t5 _ _ e')
        have S6 : Same H H6 := fun b' o e' => s6 _ _ ((s3.trans s4) _ _ e')
        have hkl := hK.len (n := x.length) fun e ⟨k, _, h⟩ => (sh_cn htok h).1
        refine ⟨_, rfl, fo, rfl, .inl ⟨_, .inl hfo6⟩, _, rfl, _, rfl, _, rfl, by show (2 : Nat) ≤ _; omega, fun pk npk => ?_⟩
        have t7 := Same.new (o := .tup [.ref aR, .int (kk : Int)]) npk
        have hpk : upd H6 pk (.tup [.ref aR, .int (kk : Int)]) pk = some (.tup [.ref aR, .int (kk : Int)]) := upd_same
        have hfo7 := t7 _ _ hfo6
        have S7 := S6.trans t7
        have hRm7 := (hRm.same (fun b' o e' => s6 _ _ e')).same t7
        have sx7 := sx6.trans t7.x
        generalize upd H6 pk (.tup [.ref aR, .int (kk : Int)]) = H7 at *
        have E7 := hE.same S7
        obtain ⟨dC, _, hdC, epC, kvC, hC7, hKC⟩ := E7.at_ R hRin kk (Nat.zero_le _) hkx
        have hkcl := hKC.len (n := x.length) fun e h => (sh_cn htok h).1
        refine ⟨ed, pk, keE R kk, kvs, _, rfl, rfl, E7.here, E7.keys, key_at (z := z) hRm7.1 hpk, rfl, hdC, dC, kv, epC, kvC, rfl, ne_of hfo7 hC7 (by intro e; cases e), hfo7, hC7, by omega, ?_⟩
        refine ⟨_, _, rfl, fun b' o hn' e' => by rw [upd_ne hn']; exact sx7 _ _ hn' e', upd_same, (hK.merge hKC).to fun e => ?_⟩
        rw [htk2]
        constructor
        · rintro (⟨k2, h1, h2⟩ | h)
          · exact ⟨k2, List.mem_append_left _ h1, h2⟩
          · exact ⟨kk, List.mem_append_right _ List.mem_cons_self, h⟩
        · rintro ⟨k2, h1, h2⟩
          rcases List.mem_append.mp h1 with h1 | h1
          · exact .inl ⟨k2, h1, h2⟩
          · rw [List.mem_singleton.mp h1] at h2
            exact .inr h2
      · rintro σ H6 ⟨kv, u6, rfl, sx6, hfo6, hK⟩
        rw [List.length_map, List.take_length] at hK
        have s6 : Same H3 H6 := fun b' o e' => sx6 _ _ (ne_of_none (s4 _ _ e') nfo) (t5 _ _ (s4 _ _ e'))
        refine hU _ _ ?_
        refine ⟨_, rfl, fo, kv, rfl, hfo6, fun pn npn => ?_⟩
        obtain ⟨ns2, h1, h2, h3⟩ := hK.ints
        have hkl := hK.len (n := x.length) fun e ⟨k, _, h⟩ => (sh_cn htok h).1
        refine ⟨pn, ns2, _, _, _, rfl, s6.trans (Same.new npn), by rw [upd_same, h1], fun e => ?_, by omega⟩
        rw [h2, rch_snoc]
        exact ⟨fun ⟨k, g1, g2⟩ => ⟨k, (hns k).mp g1, g2⟩, fun ⟨k, g1, g2⟩ => ⟨k, (hns k).mpr g1, g2⟩⟩
    · subst hσ
      refine hU _ _ ?_
      refine ⟨_, rfl, pl, _, rfl, .inl (SqL.of hpl4), _, _, rfl, rfl, ?_⟩
      have hall : (rms ds).take (V.ref aO :: vs).length = rms ds := by rw [hxl, ← rms_len, List.take_length]
      rw [hall] at hns
      have e : decide ((((ns.map fun e : Nat => V.int (e : Int)).length : Nat) : Int) > 0) = decide (0 < cn b x ds i) := by
        refine decide_eq_decide.mpr ?_
        rw [cn_iff htok hbk hi, rch_chain, List.length_map]
        constructor
        · intro g
          obtain ⟨e, he⟩ := List.exists_mem_of_length_pos (l := ns) (by omega)
          exact ⟨e, (hns e).mp he⟩
        · rintro ⟨e, he⟩
          have := List.length_pos_of_mem ((hns e).mpr he)
          omega
      show Q (.bl (decide ((((ns.map fun e : Nat => V.int (e : Int)).length : Nat) : Int) > 0))) H4
      rw [e]
      exact k H4 (s3.trans s4)
theorem scHop : FnScope ["mark", "door", "place", "doors", "ends", "tried"] ["mark", "door", "place", "doors", "ends"] (defScope sIsHopeful) := ⟨rfl, rfl, rfl, by decide +kernel, rfl, by decide +kernel, by decide +kernel⟩
inductive spHop (P : Program) (w : World) (K : PySem.W.Frag) : List V → Hp → VK → XK → Prop where
  | mk {vs : List V} {H : Hp} {Q : VK} {E : XK} (z b x ds rs m u o : _) (i : Nat) (q ed : Addr) (kvs : _) (c1 : vs = [.str m, u, .int (i : Int), .ref q, .ref ed]) (c2 : Bag z H) (c4 : BkOk b) (c5 : RmsOk b rs) (c6 : PDs z H q ds) (c7 : LdBk b ds) (c3 : Rep z H u (mkOD o)) (c8 : ((m, o) : Mk) ∈ fitsP b ds x i) (c9 : x.length ≤ 20000) (c11 : ds.length ≤ i) (c10 : EndsD P w K H ed b x rs 0 kvs)
    (k : ∀ H', Same H H' → Q (.bl (decide (0 < cn b x (takeL ds i m o).2 (i + m.length)))) H') : spHop P w K vs H Q E
theorem take_len (ds : List LDr) (i : Nat) (m : Str) (o : Option Dr) : (takeL ds i m o).2.length ≤ ds.length + 1 := by
  cases o with
  | none =>
    show ds.dropLast.length ≤ _
    rw [List.length_dropLast]
    omega
  | some d =>
    show (ds ++ [_]).length ≤ _
    rw [List.length_append]
    exact Nat.le_refl _
set_option maxHeartbeats 0 in
theorem ok_hop {f f1 f2 : Addr} {fd fd1 fd2 : FuncData} (F : Fun K "is_hopeful" "is_hopeful" sIsHopeful f fd) (T : TxtB mg) (T2 : Txt2 mg)
    (k1 : PySem.W.keepIn K (.ref f1) = true) (b1 : Binds K fd1 ["mark", "door", "place", "doors"] []) (m1 : mg "take_mark" = some (.ref f1)) (G1 : FnOk P w K mg base CX0 2 f1 fd1 ["mark", "door", "place", "doors"] spTakeM)
    (k2 : PySem.W.keepIn K (.ref f2) = true) (b2 : Binds K fd2 ["place", "doors", "ends"] []) (m2 : mg "can_be_whole" = some (.ref f2)) (G2 : FnOk P w K mg base CX0 1 f2 fd2 ["place", "doors", "ends"] (spCan P w K)) : FnOk P w K mg base CX0 3 f fd ["mark", "door", "place", "doors", "ends"] (spHop P w K) := by
  refine F.ok scHop (fun vs H Q E h => ?_) (fun cdv A outer s H vs Q E hr h => ?_)
  · obtain ⟨z, b, x, ds, rs, m, u, o, i, q, ed, kvs, rfl, _⟩ := h
    rfl
  · obtain ⟨z, b, x, ds, rs, m, u, o, i, q, ed, kvs, rfl, hB, hok, RO, ⟨vs, hq, RD⟩, hbk, Ru, hy, hx, hdl, hE, k⟩ := h
    have nd := scHop.nd
    refine ⟨_, pss_cons (ps_set (i := 5) nd rfl (Or.inl rfl) (pe_callTy call_list_of (by rfl) T2.list b_list (pa_cons (pv 3) pa_nil)))
      (pss_cons (ps_expr (pe_call G1 hr rfl m1 k1 b1 .nil pass0 (pa_cons (pv 0) (pa_cons (pv 1) (pa_cons (pv 2) (pa_cons (pv 5) pa_nil))))))
      (pss_one (ps_ret (pe_call (G2.mono (by omega)) hr rfl m2 k2 b2 .nil pass0 (pa_cons (pe_op op_add (pv 2) (pe_callB call_len_str (by rfl) T.len b_len (pa_cons (pv 0) pa_nil))) (pa_cons (pv 5) (pa_cons (pv 4) pa_nil))))))), ?_⟩
    dsimp only [cxOf, Cx.nox, Cx.wish]
    have big := big1000
    have bigS := sizeLine_eq
    obtain ⟨hb1, hb6, htok, hbB⟩ := id hok
    have hld := hbk.ok htok
    have hil := fits_len hy
    have hsm := poss_sm htok hld (List.mem_filter.mp hy).1
    have hm1 : 1 ≤ m.length := hsm.1
    have hm2 : m.length ≤ 4 := hsm.2
    have hil : i + m.length ≤ x.length := hil
    refine seq_hide fun U hU => ?_
    refine ⟨_, rfl, q, _, rfl, .inl (SqL.of hq), fun pt npt => hU _ _ (seq_hide fun U hU => ?_)⟩
    have t1 := Same.new (o := .lst vs) npt
    have hpt : upd H pt (.lst vs) pt = some (.lst vs) := upd_same
    have hptz : pt ≠ z := hB.ne npt
    generalize upd H pt (.lst vs) = H1 at *
    have hno : o = none → 0 < ds.length := fun e => by
      subst e
      obtain ⟨ds', d, rfl, _⟩ := close_snoc (List.mem_filter.mp hy).1
      rw [List.length_append]
      show 0 < _ + 1
      omega
    refine ⟨_, rfl, _, rfl, _, rfl, _, rfl, z, m, u, o, i, pt, ds, rfl, hB.same t1, hptz, Ru.mono t1.x, by omega, ⟨vs, hpt, RD.mono t1.x⟩, by omega, hno, fun p H2 sx2 np hp hPD => hU _ _ ?_⟩
    have s2 : Same H H2 := fun b' o e' => sx2 _ _ (ne_of_none e' npt) (t1 _ _ e')
    have htl := take_len ds i m o
    have eb : (i : Int) + (m.length : Int) = ((i + m.length : Nat) : Int) := by omega
    refine ⟨_, rfl, _, rfl, m, rfl, by omega, _, _, rfl, rfl, _, rfl, _, rfl, z, b, x, (takeL ds i m o).2, rs, i + m.length, pt, ed, kvs, by show [V.int ((i : Int) + (m.length : Int)), _, _] = _; rw [eb], hok, RO, hPD, take_bk (y := (m, o)) hbk (List.mem_filter.mp hy).1, hil, hx, by omega, hE.same s2, fun H3 t3 => k H3 (s2.trans t3)⟩
end
end T1
namespace T1
open PySem L2
abbrev st0 : Stp := (0, 0, ⟨#[]⟩, 0, 0)
theorem rep_stV {z : Addr} {H : Hp} {v : V} {d : Stp} (r : Rep z H v (stD d)) : ∃ a, v = .ref a ∧ a ≠ z ∧ H a = some (.tup (stV d)) ∧ d.2.2.1.length ≤ 1000 := by
  cases r with
  | tup h hz r =>
    cases r with
    | cons r1 r =>
      cases r with
      | cons r2 r =>
        cases r with
        | cons r3 r =>
          cases r with
          | cons r4 r =>
            cases r with
            | cons r5 r =>
              cases r
              cases r1
              cases r2
              cases r4
              cases r5
              cases r3 with
              | str _ h3 => exact ⟨_, rfl, hz, h, h3⟩
theorem reps_st {z : Addr} {H : Hp} {fv : List V} {ss : List Stp} {t : Nat} (R : Reps z H fv (ss.map stD)) (h : t < ss.length) : Rep z H (fv.getD t .non) (stD (ss.getD t st0)) := by
  have := R.get (i := t) (by simp; omega)
  simpa [h] using this
theorem rep_st' {z p : Addr} {H : Hp} {d : Stp} (h : H p = some (.tup (stV d))) (hz : p ≠ z) (hl : d.2.2.1.length ≤ 1000) : Rep z H (.ref p) (stD d) := .tup h hz (.cons (.int _) (.cons (.int _) (.cons (.str _ hl) (.cons (.int _) (.cons (.int _) .nil)))))
end T1
namespace T1
open PySem L2
def turnV : Option Nat → V
  | none => .non
  | some p => .int (p : Int)
theorem turn_eq (i : Nat) (t : Option Nat) : decide (V.int (i : Int) = turnV t) = decide (some i = t) := by
  refine decide_eq_decide.mpr ?_
  cases t with
  | none => exact ⟨(fun h => nomatch h), (fun h => nomatch h)⟩
  | some p =>
    constructor
    · intro h
      injection h with h
      have : i = p := by omega
      rw [this]
    · intro h
      injection h with h
      rw [h]
      rfl
theorem take_many (ds : List LDr) (i : Nat) (m : Str) (o : Option Dr) : (takeL ds i m o).1.2.1 = (m.length : Int) := by cases o <;> rfl
theorem take_word (ds : List LDr) (i : Nat) (m : Str) (o : Option Dr) : (takeL ds i m o).1.2.2.1.length ≤ 1000 := by
  cases o with
  | none => show (Str.ofString "close").length ≤ _; decide +kernel
  | some d => show (Str.ofString "open").length ≤ _; decide +kernel
theorem plain_word (b : Bk) (ds : List LDr) (x : Str) (i : Nat) : (plainL b ds x i).2.2.1.length ≤ 1000 := by
  unfold plainL
  split
  · split
    · show (Str.ofString "escape").length ≤ _; decide +kernel
    · show (Str.ofString "cut").length ≤ _; decide +kernel
  · show (Str.ofString "sign").length ≤ _; decide +kernel
def tsN (b : Bk) (x : Str) (s : WSt) : List Nat := if 1 < (hop b x s.ds s.at_).length then s.ts ++ [s.at_] else s.ts
theorem wrS_nil {b : Bk} {x : Str} {turn : Option Nat} {s : WSt} (hi : s.at_ < x.length) (h : hop b x s.ds s.at_ = []) : wrS b x turn s = ⟨s.at_ + (plainL b s.ds x s.at_).2.1.toNat, s.ds, s.ss ++ [plainL b s.ds x s.at_], tsN b x s⟩ := by
  unfold wrS tsN
  rw [if_pos hi]
  simp only [h, if_true]
theorem wrS_mark {b : Bk} {x : Str} {turn : Option Nat} {s : WSt} (hi : s.at_ < x.length) (h : hop b x s.ds s.at_ ≠ []) {y : Mk} (hy : y = (hop b x s.ds s.at_).getD (if some s.at_ = turn then 1 else 0) mk0) : wrS b x turn s = ⟨s.at_ + y.1.length, (takeL s.ds s.at_ y.1 y.2).2, s.ss ++ [(takeL s.ds s.at_ y.1 y.2).1], tsN b x s⟩ := by
  unfold wrS tsN
  rw [if_pos hi]
  simp only [if_neg h]
  rw [hy]
inductive spWhole (P : Program) (w : World) (K : PySem.W.Frag) : List V → Hp → VK → XK → Prop where
  | mk {vs : List V} {H : Hp} {Q : VK} {E : XK} (z v b x rs turn : _) (ed : Addr) (kvs : _) (c1 : vs = [v, .str x, .ref ed, turnV turn]) (c2 : Bag z H) (c3 : Rep z H v (bkD b)) (c4 : BkOk b) (c5 : RmsOk b rs) (c9 : x.length ≤ 20000) (c10 : EndsD P w K H ed b x rs 0 kvs) (c11 : 0 < cn b x [] 0)
    (c12 : ∀ n, WOk b x (wrF b x turn n) ∧ (some (wrF b x turn n).at_ = turn → 1 < (hop b x (wrF b x turn n).ds (wrF b x turn n).at_).length))
    (q : ∀ n p pt pn ws H', (wrF b x turn n).at_ = x.length → Same H H' → H p = none → H' p = some (.tup [.ref pt, .ref pn]) → H pt = none → pt ≠ z → H' pt = some (.lst ws) → Reps z H' ws ((wrF b x turn n).ss.map stD) → H' pn = some (.lst ((wrF b x turn n).ts.map fun e : Nat => V.int (e : Int))) → Q (.ref p) H') : spWhole P w K vs H Q E
section
variable {P : Program} {w : World} {K : PySem.W.Frag} {mg : Str → Option Value} {base : Heap}
theorem scWhole : FnScope ["book", "text", "ends", "turn", "told", "turns", "doors", "place", "fits", "hopeful", "mark", "door", "step"] ["book", "text", "ends", "turn"] (defScope sWholeReading) := ⟨rfl, rfl, rfl, by decide +kernel, rfl, by decide +kernel, by decide +kernel⟩
theorem ndFDEP : (["fit", "doors", "ends", "place"] : List Str).Nodup := by decide +kernel
set_option maxHeartbeats 0 in
theorem ok_whole {f f1 f2 f3 f4 : Addr} {fd fd1 fd2 fd3 fd4 : FuncData} (F : Fun K "whole_reading" "whole_reading" sWholeReading f fd) (T : TxtB mg)
    (k1 : PySem.W.keepIn K (.ref f1) = true) (b1 : Binds K fd1 ["book", "text", "place", "doors"] []) (m1 : mg "fitting_marks" = some (.ref f1)) (G1 : FnOk P w K mg base CX0 3 f1 fd1 ["book", "text", "place", "doors"] spFitP)
    (k2 : PySem.W.keepIn K (.ref f2) = true) (b2 : Binds K fd2 ["book", "text", "place", "doors"] []) (m2 : mg "read_plain" = some (.ref f2)) (G2 : FnOk P w K mg base CX0 2 f2 fd2 ["book", "text", "place", "doors"] spPlainR)
    (k3 : PySem.W.keepIn K (.ref f3) = true) (b3 : Binds K fd3 ["mark", "door", "place", "doors"] []) (m3 : mg "take_mark" = some (.ref f3)) (G3 : FnOk P w K mg base CX0 2 f3 fd3 ["mark", "door", "place", "doors"] spTakeM)
    (k4 : PySem.W.keepIn K (.ref f4) = true) (b4 : Binds K fd4 ["mark", "door", "place", "doors", "ends"] []) (m4 : mg "is_hopeful" = some (.ref f4)) (G4 : FnOk P w K mg base CX0 3 f4 fd4 ["mark", "door", "place", "doors", "ends"] (spHop P w K)) : FnOk P w K mg base CX0 4 f fd ["book", "text", "ends", "turn"] (spWhole P w K) := by
  refine F.ok scWhole (fun vs H Q E h => ?_) (fun cdv A outer s H vs Q E hr h => ?_)
  · obtain ⟨z, v, b, x, rs, turn, ed, kvs, rfl, _⟩ := h
    rfl
  · obtain ⟨z, v, b, x, rs, turn, ed, kvs, rfl, hB, R0, hok, RO, hx, hE, hp0, hW, k⟩ := h
    have nd := scWhole.nd
    refine ⟨_, pss_cons (ps_set (i := 4) nd rfl (Or.inl rfl) (pe_lst pa_nil))
      (pss_cons (ps_set (i := 5) nd rfl (Or.inl rfl) (pe_lst pa_nil))
      (pss_cons (ps_set (i := 6) nd rfl (Or.inr rfl) (pe_lst pa_nil))
      (pss_cons (ps_set (i := 7) nd rfl (Or.inr rfl) pe_int)
      (pss_cons (ps_while PassesOwn.never (pt_cmpR op_lt (pv 7) (pe_callB call_len_str (by rfl) T.len b_len (pa_cons (pv 1) pa_nil)) (nomark _))
        (pss_cons (ps_set (i := 8) nd rfl (Or.inl rfl) (pe_call G1 (hr.mono (by decide)) rfl m1 k1 b1 .nil pass0 (pa_cons (pv 0) (pa_cons (pv 1) (pa_cons (pv 7) (pa_cons (pv 6) pa_nil))))))
        (pss_cons (ps_setcomp1 (N' := ["fit", "doors", "ends", "place"]) (js := [none, some 6, some 2, some 7]) (i := 9) rfl rfl nd rfl (Or.inl rfl) (blk_of (defScope sWholeReading) (by decide +kernel)) ⟨rfl, Or.inr (Or.inl rfl), rfl, rfl, Or.inr (Or.inl rfl), rfl, rfl, Or.inr (Or.inl rfl), rfl, trivial⟩
          (pi_list (pv 8)) (fun cl s H fp => pg_name (i := 0) ndFDEP rfl (Or.inl rfl))
          (fun cl s H fp => pts_one (pt_val (pe_call G4 hr rfl m4 k4 b4 .nil pass0 (pa_cons (pe_ix ix_tupB (pv 0) pe_int (fun _ _ => rfl)) (pa_cons (pe_ix ix_tupB (pv 0) pe_int (fun _ _ => rfl)) (pa_cons (pv 3) (pa_cons (pv 1) (pa_cons (pv 2) pa_nil))))))))
          (fun cl s H fp => pv 0))
        (pss_cons (ps_if (pt_cmpR op_gt (pe_callB call_len_seq (by rfl) T.len b_len (pa_cons (pv 9) pa_nil)) pe_int (nomark _))
          (pss_one (ps_expr (pe_bm PySem.F.plainAttrs_list PySem.F.slot_list_append PySem.F.type_list_append mt_append (pv 5) (pa_cons (pv 7) pa_nil)))) pss_nil)
        (pss_cons (ps_if (pt_truth (pv 9) (fun _ => rfl))
          (pss_cons (ps_asg (pe_ix ix_list (pv 9) (pe_ifExp (pt_cmpR op_eq (pv 7) (pv 3) (nomark _)) pe_int pe_int) (fun _ _ => rfl)) (pg_tup rfl (pgs_cons (pg_name (i := 10) nd rfl (Or.inl rfl)) (pgs_cons (pg_name (i := 11) nd rfl (Or.inl rfl)) pgs_nil))))
          (pss_one (ps_set (i := 12) nd rfl (Or.inl rfl) (pe_call G3 (hr.mono (by decide)) rfl m3 k3 b3 .nil pass0 (pa_cons (pv 10) (pa_cons (pv 11) (pa_cons (pv 7) (pa_cons (pv 6) pa_nil))))))))
          (pss_one (ps_set (i := 12) nd rfl (Or.inl rfl) (pe_call G2 (hr.mono (by decide)) rfl m2 k2 b2 .nil pass0 (pa_cons (pv 0) (pa_cons (pv 1) (pa_cons (pv 7) (pa_cons (pv 6) pa_nil))))))))
        (pss_cons (ps_expr (pe_bm PySem.F.plainAttrs_list PySem.F.slot_list_append PySem.F.type_list_append mt_append (pv 4) (pa_cons (pv 12) pa_nil)))
        (pss_one (ps_aug (i := 7) nd rfl (Or.inr rfl) (pe_ix ix_tup (pv 12) pe_int (fun _ _ => rfl)) ip_add))))))))
      (pss_one (ps_ret (pe_tup (pa_cons (pv 4) (pa_cons (pv 5) pa_nil))))))))), ?_⟩
    dsimp only [cxOf, Cx.nox, Cx.wish]
    have big := big1000
    have bigS := sizeLine_eq
    obtain ⟨hb1, hb6, htok, hbB⟩ := id hok
    refine ⟨Nat.zero_le _, fun pt npt => ⟨Nat.zero_le _, fun pn npn => ⟨Nat.zero_le _, fun q nq => ?_⟩⟩⟩
    have s1 := Same.new (o := .lst []) npt
    have hpt1 : upd H pt (.lst []) pt = some (.lst []) := upd_same
    have hptz : pt ≠ z := hB.ne npt
    generalize upd H pt (.lst []) = H1 at *
    have s2 := Same.new (o := .lst []) npn
    have hpn2 : upd H1 pn (.lst []) pn = some (.lst []) := upd_same
    have hpnz : pn ≠ z := (hB.same s1).ne npn
    have hpt2 := s2 _ _ hpt1
    have hnt : pn ≠ pt := (ne_of_none hpt1 npn).symm
    have npn0 : H pn = none := s1.free npn
    generalize upd H1 pn (.lst []) = H2 at *
    have s3 := Same.new (o := .lst []) nq
    have hq3 : upd H2 q (.lst []) q = some (.lst []) := upd_same
    have s02 := s1.trans s2
    have hqz : q ≠ z := (hB.same s02).ne nq
    have hpt3 := s3 _ _ hpt2
    have hpn3 := s3 _ _ hpn2
    have hqt : q ≠ pt := (ne_of_none hpt2 nq).symm
    have hqn : q ≠ pn := (ne_of_none hpn2 nq).symm
    have nq0 : H q = none := s02.free nq
    have s03 := s02.trans s3
    generalize upd H2 q (.lst []) = H3 at *
    refine while_by (fun σ H4 => ∃ n u8 u9 u10 u11 u12, σ = [some v, some (.str x), some (.ref ed), some (turnV turn), some (.ref pt), some (.ref pn), some (.ref q), some (.int ((wrF b x turn n).at_ : Int)), u8, u9, u10, u11, u12] ∧ Same H H4 ∧ PDs z H4 q (wrF b x turn n).ds ∧ (∃ ws, H4 pt = some (.lst ws) ∧ Reps z H4 ws ((wrF b x turn n).ss.map stD)) ∧ H4 pn = some (.lst ((wrF b x turn n).ts.map fun e : Nat => V.int (e : Int))) ∧ (wrF b x turn n).ts.length ≤ (wrF b x turn n).at_)
      (fun σ H4 => match σ[7]? with | some (some (V.int i)) => x.length - i.toNat | _ => 0) ⟨0, _, _, _, _, _, rfl, s03, ⟨[], hq3, .nil⟩, ⟨[], hpt3, .nil⟩, hpn3, Nat.le_refl _⟩ ?_ ?_
    · rintro σ H4 ⟨n, u8, u9, u10, u11, u12, rfl, s4, hPD, ⟨ws, hpt4, RS⟩, hpn4, htl⟩
      obtain ⟨wok, wtn⟩ := hW n
      have wok2 := (hW (n + 1)).1
      obtain ⟨hbk, hle, hdss⟩ := pth_ok wok.pth
      have hssl := pth_len htok wok.pth
      have hld := hbk.ok htok
      have wgo := fun h => wrS_go htok wok wtn h
      have wnx : wrF b x turn (n + 1) = wrS b x turn (wrF b x turn n) := rfl
      generalize hS : wrF b x turn n = S at *
      refine ⟨_, rfl, _, rfl, x, rfl, by omega, _, _, rfl, rfl, _, rfl, ?_⟩
      refine ite2 (fun hlt => ?_) (fun hlt => ?_)
      · have hlt : S.at_ < x.length := by have := of_decide_eq_true hlt; omega
        have wgo := wgo hlt
        refine seq_hide fun U hU => ?_
        refine ⟨_, rfl, _, rfl, _, rfl, _, rfl, z, v, b, q, S.ds, x, S.at_, rfl, hB.same s4, R0.mono s4.x, hok, hPD, hld, fun pf fs H5 t5 npf hpf RF => hU _ _ (seq_hide fun U hU => ?_)⟩
        have s5 := s4.trans t5
        have hfl : fs.length = (fitsP b S.ds x S.at_).length := by have := RF.length; simpa using this
        have hf10 : (fitsP b S.ds x S.at_).length ≤ 10 := Nat.le_trans (List.length_filter_le _ _) (possL_few htok)
        refine ⟨_, rfl, pf, rfl, ⟨_, SqL.of hpf⟩, fun pC npC => ?_⟩
        have hpfC : pf ≠ pC := ne_of_none hpf npC
        refine loop_repsF (z := z) (fun j => decide (0 < cn b x (takeL S.ds S.at_ ((fitsP b S.ds x S.at_).getD j mk0).1 ((fitsP b S.ds x S.at_).getD j mk0).2).2 (S.at_ + ((fitsP b S.ds x S.at_).getD j mk0).1.length))) (fun j => mkD ((fitsP b S.ds x S.at_).getD j mk0)) (fun σ => ∃ u, σ = [u, some (.ref q), some (.ref ed), some (.int (S.at_ : Int))]) ⟨none, rfl⟩ npC (by omega) (itok_lst (xs := fs) (by rw [upd_ne hpfC]; exact hpf) hpfC) (fun j => noL_mk _) (fun j σ H6 Ct Cf hj ⟨u, hv⟩ hS6 hT hF => ?_) (fun σ H6 hs t6 hpC RH => ?_)
        · subst hv
          have hjl : j < (fitsP b S.ds x S.at_).length := by omega
          have Rj := (reps_mk (ms := fitsP b S.ds x S.at_) (i := j) RF hjl).mono hS6.x (z := z)
          have hym := getD_mem mk0 hjl
          generalize (fitsP b S.ds x S.at_).getD j mk0 = Y at *
          obtain ⟨m, o⟩ := Y
          obtain ⟨a, u, e, haz, ha, hlen, Ru⟩ := rep_mk Rj
          have s6 := s5.trans hS6
          rw [e] at Rj ⊢
          refine ⟨_, rfl, a, _, 0, _, rfl, rfl, SqT.of ha, atI_nat (j := 0) rfl, _, rfl, a, _, 1, _, rfl, rfl, SqT.of ha, atI_nat (j := 1) rfl, _, rfl, _, rfl, _, rfl, z, b, x, S.ds, rs, m, u, o, S.at_, q, ed, kvs, rfl, hB.same s6, hok, RO, hPD.same (t5.trans hS6), hbk, Ru, hym, hx, by omega, hE.same s6, fun H7 t7 => ⟨_, rfl, ?_⟩⟩
          refine ite2 (fun h => ?_) (fun h => ?_)
          · exact ⟨_, rfl, hT h _ _ _ ⟨_, rfl⟩ t7 (Rj.mono t7.x)⟩
          · exact hF (by simpa using h) _ _ ⟨_, rfl⟩ t7
        · rw [hfl, range_filter (fitsP b S.ds x S.at_) mk0 (fun y => decide (0 < cn b x (takeL S.ds S.at_ y.1 y.2).2 (S.at_ + y.1.length))) mkD] at RH
          have RH : Reps z H6 hs ((hop b x S.ds S.at_).map mkD) := RH
          have hhl : hs.length = (hop b x S.ds S.at_).length := by have := RH.length; simpa using this
          have s6 := s5.trans t6
          have hpt6 := (t5.trans t6) _ _ hpt4
          have hpn6 := (t5.trans t6) _ _ hpn4
          have RS6 := RS.mono (t5.trans t6).x (z := z)
          have hPD6 := hPD.same (t5.trans t6)
          have npC0 : H pC = none := s5.free npC
          have hCn : pC ≠ pn := (ne_of_none (t5 _ _ hpn4) npC).symm
          have hCt : pC ≠ pt := (ne_of_none (t5 _ _ hpt4) npC).symm
          refine hU _ _ ?_
          refine seq_cut (J := fun σ' H7 => σ' = [some v, some (.str x), some (.ref ed), some (turnV turn), some (.ref pt), some (.ref pn), some (.ref q), some (.int (S.at_ : Int)), some (.ref pf), some (.ref pC), u10, u11, u12] ∧ SameX pn H6 H7 ∧ H7 pn = some (.lst ((tsN b x S).map fun e : Nat => V.int (e : Int)))) (fun U J => ?g1) ?g2
          case g1 =>
            refine ⟨_, rfl, pC, _, rfl, .inl (SqL.of hpC), _, _, rfl, rfl, _, rfl, ite2 (fun g => ?_) (fun g => ?_)⟩
            · have g : 1 < (hop b x S.ds S.at_).length := by have := of_decide_eq_true g; omega
              refine ⟨_, rfl, .inl ⟨rfl, _, SqL.of hpn6⟩, _, rfl, pn, _, _, rfl, rfl, hpn6, by rw [List.length_map]; omega, J _ _ ⟨rfl, fun b' o hn e' => by rw [upd_ne hn]; exact e', ?_⟩⟩
              rw [upd_same]
              unfold tsN
              rw [if_pos g, List.map_append]
              rfl
            · have g : ¬ 1 < (hop b x S.ds S.at_).length := fun h => g (decide_eq_true (by show (1 : Int) < _; omega))
              refine J _ _ ⟨rfl, SameX.refl, ?_⟩
              unfold tsN
              rw [if_neg g]
              exact hpn6
          case g2 =>
            rintro σ' H7 ⟨rfl, sx7, hpn7⟩
            have hpt7 := sx7 _ _ hnt.symm hpt6
            have hpC7 := sx7 _ _ hCn hpC
            have RS7 := Reps.butL hpn6 sx7 RS6 (noL_sts _)
            have RH7 := Reps.butL hpn6 sx7 RH (noL_mks _)
            have hPD7 : PDs z H7 q S.ds := by
              obtain ⟨dv, g1, g2⟩ := hPD6
              exact ⟨dv, sx7 _ _ hqn g1, Reps.butL hpn6 sx7 g2 (noL_pds _)⟩
            have s7 : Same H H7 := fun b' o e' => sx7 _ _ (ne_of_none e' npn0) (s6 _ _ e')
            have htsN : (tsN b x S).length ≤ S.at_ + 1 := by
              unfold tsN
              split
              · rw [List.length_append]; show _ + 1 ≤ _; omega
              · omega
            clear RH hpC hpn6 RS6 hPD6 sx7 hpt6
            refine seq_cut (J := fun σ' H8 => ∃ ps st ds' a10 a11, σ' = [some v, some (.str x), some (.ref ed), some (turnV turn), some (.ref pt), some (.ref pn), some (.ref q), some (.int (S.at_ : Int)), some (.ref pf), some (.ref pC), a10, a11, some (.ref ps)] ∧ Same H H8 ∧ H8 ps = some (.tup (stV st)) ∧ ps ≠ z ∧ st.2.2.1.length ≤ 1000 ∧ ((st.2.1.toNat : Nat) : Int) = st.2.1 ∧ PDs z H8 q ds' ∧ (∃ ws, H8 pt = some (.lst ws) ∧ Reps z H8 ws (S.ss.map stD)) ∧ H8 pn = some (.lst ((tsN b x S).map fun e : Nat => V.int (e : Int))) ∧ wrF b x turn (n + 1) = ⟨S.at_ + st.2.1.toNat, ds', S.ss ++ [st], tsN b x S⟩) (fun U J => ?h1) ?h2
            case h1 =>
              refine ⟨_, rfl, _, .inl ⟨hs, SqL.of hpC7, rfl⟩, ite2 (fun g => ?_) (fun g => ?_)⟩
              · have hne : hop b x S.ds S.at_ ≠ [] := fun e => by
                  rw [e] at hhl
                  rw [List.eq_nil_of_length_eq_zero hhl] at g
                  simp at g
                have hpos := List.length_pos_iff.mpr hne
                have hsc : scal (V.int (S.at_ : Int)) (turnV turn) = true := by cases turn <;> rfl
                refine seq_hide fun U2 hU2 => ?_
                refine ⟨_, rfl, _, rfl, _, rfl, hsc, _, rfl, ?_⟩
                rw [turn_eq]
                obtain ⟨j, hj⟩ : ∃ j, j = if some S.at_ = turn then 1 else 0 := ⟨_, rfl⟩
                have hjl : j < (hop b x S.ds S.at_).length := by
                  rw [hj]
                  split
                  · rename_i h; exact wtn h
                  · exact hpos
                obtain ⟨Y, hY⟩ : ∃ Y, Y = (hop b x S.ds S.at_).getD j mk0 := ⟨_, rfl⟩
                have hst : wrF b x turn (n + 1) = _ := wnx.trans (wrS_mark (y := Y) hlt hne (by rw [← hj]; exact hY))
                have hYm : Y ∈ hop b x S.ds S.at_ := by rw [hY]; exact getD_mem mk0 hjl
                have Rj := reps_mk (ms := hop b x S.ds S.at_) (i := j) RH7 hjl
                rw [← hY] at Rj
                obtain ⟨m, o⟩ := Y
                obtain ⟨a, u, e, haz, ha, hlen, Ru⟩ := rep_mk Rj
                have hjn : hs[j]? = some (.ref a) := by
                  have h1 : j < hs.length := by omega
                  have h2 : hs.getD j .non = hs[j] := by simp [h1]
                  rw [List.getElem?_eq_getElem h1, ← h2, e]
                have hym := (hop_mem hYm).1
                have hposs := (List.mem_filter.mp hym).1
                have hno : o = none → 0 < S.ds.length := fun e => by
                  subst e
                  obtain ⟨ds', d, e, _⟩ := close_snoc hposs
                  rw [e, List.length_append]
                  show 0 < _ + 1
                  omega
                have hsm := poss_sm htok hld hposs
                have hm4 : m.length ≤ 4 := hsm.2
                have etm := take_many S.ds S.at_ m o
                have htw := take_word S.ds S.at_ m o
                have hst : wrF b x turn (n + 1) = ⟨S.at_ + (takeL S.ds S.at_ m o).1.2.1.toNat, (takeL S.ds S.at_ m o).2, S.ss ++ [(takeL S.ds S.at_ m o).1], tsN b x S⟩ := by
                  rw [hst, etm]
                  rfl
                by_cases ht : some S.at_ = turn
                case' pos =>
                  rw [decide_eq_true ht]
                  rw [if_pos ht] at hj
                  subst hj
                  refine iteT ⟨pC, hs, 1, .ref a, rfl, rfl, SqL.of hpC7, atI_nat (j := 1) hjn, ?_⟩
                case' neg =>
                  rw [decide_eq_false ht]
                  rw [if_neg ht] at hj
                  subst hj
                  refine iteF ⟨pC, hs, 0, .ref a, rfl, rfl, SqL.of hpC7, atI_nat (j := 0) hjn, ?_⟩
                all_goals
                  refine ⟨a, _, rfl, SqT.of ha, rfl, _, _, rfl, _, _, rfl, rfl, hU2 _ _ ?_⟩
                  refine ⟨_, rfl, _, rfl, _, rfl, _, rfl, z, m, u, o, S.at_, q, S.ds, rfl, hB.same s7, hqz, Ru, by omega, hPD7, by omega, hno, fun p H8 sx8 np hp hPD8 => J _ _ ?_⟩
                  obtain ⟨dv, hq7, _⟩ := id hPD7
                  exact ⟨p, (takeL S.ds S.at_ m o).1, (takeL S.ds S.at_ m o).2, _, _, rfl, fun b' o' e' => sx8 _ _ (ne_of_none e' nq0) (s7 _ _ e'), hp, (hB.same s7).ne np, htw, by rw [etm]; omega, hPD8, ⟨ws, sx8 _ _ hqt.symm hpt7, Reps.butL hq7 sx8 RS7 (noL_sts _)⟩, sx8 _ _ hqn.symm hpn7, hst⟩
              · have hnil : hop b x S.ds S.at_ = [] := by
                  refine List.eq_nil_of_length_eq_zero ?_
                  cases hs with
                  | nil => simp at hhl; omega
                  | cons _ _ => simp at g
                have hst : wrF b x turn (n + 1) = _ := wnx.trans (wrS_nil hlt hnil)
                have hpl := plain_len b S.ds x S.at_
                refine ⟨_, rfl, _, rfl, _, rfl, _, rfl, z, v, b, q, S.ds, x, S.at_, rfl, R0.mono s7.x, hok, hPD7, hld, hlt, hx, fun p H8 t8 np hp => J _ _ ⟨p, plainL b S.ds x S.at_, S.ds, _, _, rfl, s7.trans t8, hp, (hB.same s7).ne np, plain_word b S.ds x S.at_, hpl.2.2.1, hPD7.same t8, ⟨ws, t8 _ _ hpt7, RS7.mono t8.x⟩, t8 _ _ hpn7, hst⟩⟩
            case h2 =>
              rintro σ' H8 ⟨ps, st, ds', a10, a11, rfl, s8, hps, hpsz, hw, hm, hPD8, ⟨ws8, hpt8, RS8⟩, hpn8, hst⟩
              have hwl8 : ws8.length = S.ss.length := by have := RS8.length; simpa using this
              refine seq_hide fun U hU => ?_
              refine ⟨_, rfl, .inl ⟨rfl, _, SqL.of hpt8⟩, _, rfl, pt, _, _, rfl, rfl, hpt8, by omega, hU _ _ ?_⟩
              have sx9 : SameX pt H8 (upd H8 pt (.lst (ws8 ++ [.ref ps]))) := fun b' o hn e' => by rw [upd_ne hn]; exact e'
              have hpt9 : upd H8 pt (.lst (ws8 ++ [.ref ps])) pt = some (.lst (ws8 ++ [.ref ps])) := upd_same
              generalize upd H8 pt (.lst (ws8 ++ [.ref ps])) = H9 at *
              have hps9 := sx9 _ _ (ne_of hps hpt8 (by intro e; cases e)) hps
              have RS9 : Reps z H9 (ws8 ++ [.ref ps]) ((S.ss ++ [st]).map stD) := by
                rw [List.map_append]
                exact (Reps.butL hpt8 sx9 RS8 (noL_sts _)).append (.cons (rep_st' hps9 hpsz hw) .nil)
              have hPD9 : PDs z H9 q ds' := by
                obtain ⟨dv, g1, g2⟩ := hPD8
                exact ⟨dv, sx9 _ _ hqt g1, Reps.butL hpt8 sx9 g2 (noL_pds _)⟩
              have s9 : Same H H9 := fun b' o e' => sx9 _ _ (ne_of_none e' npt) (s8 _ _ e')
              have hpn9 := sx9 _ _ hnt hpn8
              refine ⟨_, rfl, _, rfl, ps, _, 1, _, rfl, rfl, SqT.of hps9, atI_nat (j := 1) rfl, _, _, rfl, rfl, ?_⟩
              have wgo : S.at_ < (wrF b x turn (n + 1)).at_ := by rw [wnx]; exact wgo
              have eat : (S.at_ : Int) + st.2.1 = ((wrF b x turn (n + 1)).at_ : Int) := by
                rw [hst]
                show _ = ((S.at_ + st.2.1.toNat : Nat) : Int)
                omega
              refine ⟨⟨n + 1, some (.ref pf), some (.ref pC), a10, a11, some (.ref ps), ?_, s9, by rw [hst]; exact hPD9, ⟨_, hpt9, by rw [hst]; exact RS9⟩, by rw [hst]; exact hpn9, ?_⟩, ?_⟩
              · show [some v, some (.str x), some (.ref ed), some (turnV turn), some (.ref pt), some (.ref pn), some (.ref q), some (.int ((S.at_ : Int) + st.2.1)), some (.ref pf), some (.ref pC), a10, a11, some (.ref ps)] = _
                rw [eat]
              · have e1 : (wrF b x turn (n + 1)).ts = tsN b x S := by rw [hst]
                rw [e1]
                omega
              · show x.length - ((S.at_ : Int) + st.2.1).toNat < x.length - (S.at_ : Int).toNat
                have := (pth_ok wok2.pth).2.1
                omega
      · have hge : S.at_ = x.length := by
          have : ¬ ((S.at_ : Int) < (x.length : Int)) := fun q => hlt (decide_eq_true q)
          omega
        refine ⟨_, rfl, _, rfl, by show (2 : Nat) ≤ _; omega, fun p np => ?_⟩
        have t5 := Same.new (o := .tup [.ref pt, .ref pn]) np
        refine k n p pt pn ws _ (by rw [hS]; exact hge) (s4.trans t5) (s4.free np) upd_same npt hptz (t5 _ _ hpt4) (by rw [hS]; exact RS.mono t5.x) (by rw [hS]; exact t5 _ _ hpn4)
    · rintro σ H3 Q1 Q2 hq ⟨v1, e1, v2, e2, x2, e3, h4, i1, i2, e5, e6, b1, e7, h⟩
      exact ⟨v1, e1, v2, e2, x2, e3, h4, i1, i2, e5, e6, b1, e7, hq _ _ h⟩
end
end T1
namespace T1
open PySem L2
theorem in_oc12 {w : Str} (h : w = Str.ofString "open" ∨ w = Str.ofString "close") : inV (.str w) [.str (Str.ofString "open"), .str (Str.ofString "close")] = true := by
  rcases h with rfl | rfl <;> decide +kernel
theorem in_no12 {w : Str} (h : w = Str.ofString "sign" ∨ w = Str.ofString "escape" ∨ w = Str.ofString "cut") : inV (.str w) [.str (Str.ofString "open"), .str (Str.ofString "close")] = false := by
  rcases h with rfl | rfl | rfl <;> decide +kernel
theorem take_oc (ds : List LDr) (i : Nat) (m : Str) (o : Option Dr) : (takeL ds i m o).1.2.2.1 = Str.ofString "open" ∨ (takeL ds i m o).1.2.2.1 = Str.ofString "close" := by
  cases o with
  | none => exact .inr rfl
  | some d => exact .inl rfl
theorem plain_sec (b : Bk) (ds : List LDr) (x : Str) (i : Nat) : (plainL b ds x i).2.2.1 = Str.ofString "sign" ∨ (plainL b ds x i).2.2.1 = Str.ofString "escape" ∨ (plainL b ds x i).2.2.1 = Str.ofString "cut" := by
  unfold plainL
  split
  · split
    · exact .inr (.inl rfl)
    · exact .inr (.inr rfl)
  · exact .inl rfl
theorem cutF_ne {w : Str} (h : w = Str.ofString "open" ∨ w = Str.ofString "close") : w ≠ Str.ofString "cut" := by
  rcases h with rfl | rfl <;> decide +kernel
theorem fits_all {b : Bk} {x : Str} {ds : List LDr} {i : Nat} {y : Mk} (hi : i ≤ x.length) (h : y ∈ fitsP b ds x i) : fitAt x i y.1 = true := by
  rw [← stAt_fit hi]
  exact (List.mem_filter.mp h).2
theorem wk_step {b : Bk} {x : Str} {ds : List LDr} {i : Nat} {st : Stp} {rest : List Stp} (hok : BkOk b) (hbk : LdBk b ds) (hdl : ds.length ≤ i) (h : Wk b x ds i (st :: rest)) : i < x.length ∧ ∃ m ds', stepL b ds x i m = (st, ds') ∧ Wk b x ds' (i + st.2.1.toNat) rest ∧ LdBk b ds' ∧ i + st.2.1.toNat ≤ x.length ∧ ((st.2.1.toNat : Nat) : Int) = st.2.1 ∧ ds'.length ≤ i + st.2.1.toNat ∧ st.2.2.1 ≠ Str.ofString "cut" ∧ (m = Str.ofString "" ∨ m ∈ someL b ds) ∧
    ((m = Str.ofString "" ∧ fitL b ds x i = [] ∧ (st.2.2.1 = Str.ofString "sign" ∨ st.2.2.1 = Str.ofString "escape" ∨ st.2.2.1 = Str.ofString "cut")) ∨ (m ∈ fitL b ds x i ∧ (st.2.2.1 = Str.ofString "open" ∨ st.2.2.1 = Str.ofString "close") ∧ st.2.1 = (m.length : Int) ∧ cutS x (some (i : Int)) (some ((i : Int) + (m.length : Int))) = m)) := by
  obtain ⟨hb1, hb6, htok, hbB⟩ := id hok
  have hld := hbk.ok htok
  cases h with
  | plain hi hf hc h =>
    obtain ⟨l1, l2, l3, l4⟩ := plain_len b ds x i
    exact ⟨hi, Str.ofString "", ds, step_none hi hf, h, hbk, l4 hi, l3, by omega, hc, .inl rfl, .inl ⟨rfl, (fits_nil (by omega)).mp hf, plain_sec b ds x i⟩⟩
  | mark y hi hy h =>
    have etm := take_many ds i y.1 y.2
    have e1 : (takeL ds i y.1 y.2).1.2.1.toNat = y.1.length := by rw [etm]; rfl
    have hoc := take_oc ds i y.1 y.2
    have hmem : y.1 ∈ fitL b ds x i := ((perm_fits (by omega)).mem_iff).mp (List.mem_map_of_mem hy)
    have hsm := poss_sm htok hld (List.mem_filter.mp hy).1
    have hll := take_len ds i y.1 y.2
    have h1 := hsm.1
    have hfit := of_decide_eq_true (fits_all (by omega) hy)
    injection hfit with hfit
    refine ⟨hi, y.1, (takeL ds i y.1 y.2).2, step_fit hok hbk hi hy, by rw [e1]; exact h, take_bk hbk (List.mem_filter.mp hy).1, by rw [e1]; exact fits_len hy, by rw [etm]; omega, by rw [e1]; omega, cutF_ne hoc, .inr (List.mem_filter.mp hmem).1, .inr ⟨hmem, hoc, etm, hfit⟩⟩
theorem wk_end {b : Bk} {x : Str} {ds : List LDr} {i : Nat} (h : Wk b x ds i []) : ds = [] ∧ i = x.length := by
  cases h
  exact ⟨rfl, rfl⟩
theorem dep_st (k : Nat) (s : Stp) : Deps k [.int s.1, .int s.2.1, .str s.2.2.1, .int s.2.2.2.1, .int s.2.2.2.2] := .cons (.int _ _) (.cons (.int _ _) (.cons (.str _ _) (.cons (.int _ _) (.cons (.int _ _) (.nil _)))))
inductive spIsFree : List V → Hp → VK → XK → Prop where
  | mk {vs : List V} {H : Hp} {Q : VK} {E : XK} (z v b x : _) (pt : Addr) (ws ss : _) (c1 : vs = [v, .str x, .ref pt]) (c2 : Bag z H) (c3 : Rep z H v (bkD b)) (c4 : BkOk b) (c9 : x.length ≤ 20000) (c5 : pt ≠ z) (c6 : H pt = some (.lst ws)) (c7 : Reps z H ws (ss.map stD)) (c8 : Wk b x [] 0 ss)
    (q : ∀ H', Same H H' → Q (.bl true) H') : spIsFree vs H Q E
section
variable {P : Program} {w : World} {K : PySem.W.Frag} {mg : Str → Option Value} {base : Heap}
theorem scIsFree : FnScope ["book", "text", "told", "doors", "place", "step", "marks", "mark"] ["book", "text", "told"] (defScope lIsFree) := ⟨rfl, rfl, rfl, by decide +kernel, rfl, by decide +kernel, by decide +kernel⟩
set_option maxHeartbeats 0 in
theorem ok_isFree {f f1 f2 : Addr} {fd fd1 fd2 : FuncData} (F : Fun K "_law_is_free" "_law_is_free" lIsFree f fd) (T : TxtB mg) (T2 : Txt2 mg)
    (k1 : PySem.W.keepIn K (.ref f1) = true) (b1 : Binds K fd1 ["book", "doors", "text", "place"] []) (m1 : mg "_law_fitting" = some (.ref f1)) (G1 : FnOk P w K mg base CX0 1 f1 fd1 ["book", "doors", "text", "place"] spFitting)
    (k2 : PySem.W.keepIn K (.ref f2) = true) (b2 : Binds K fd2 ["book", "doors", "text", "place", "mark"] []) (m2 : mg "_law_step" = some (.ref f2)) (G2 : FnOk P w K mg base CX0 1 f2 fd2 ["book", "doors", "text", "place", "mark"] spStep) : FnOk P w K mg base CX0 6 f fd ["book", "text", "told"] spIsFree := by
  refine F.ok scIsFree (fun vs H Q E h => ?_) (fun cdv A outer s H vs Q E hr h => ?_)
  · obtain ⟨z, v, b, x, pt, ws, ss, rfl, _⟩ := h
    rfl
  · obtain ⟨z, v, b, x, pt, ws, ss, rfl, hB, R0, hok, hx, hptz, hpt, RS, hwk, q⟩ := h
    have nd := scIsFree.nd
    have hr5 : Room 5 _ := hr.mono (by decide)
    have hr1 : Room 1 _ := hr.mono (by decide)
    refine ⟨_, pss_cons (ps_set (i := 3) nd rfl (Or.inl rfl) (pe_lst pa_nil))
      (pss_cons (ps_set (i := 4) nd rfl (Or.inl rfl) pe_int)
      (pss_cons (ps_if (pt_not (pt_val (pe_isi T.isinst T2.list b_list (pv 2)))) (pss_one (ps_ret pe_bl)) pss_nil)
      (pss_cons (ps_for PassesOwn.never rfl (pi_list (pv 2)) (pg_name (i := 5) nd rfl (Or.inl rfl))
        (pss_cons (ps_if (PW.pt (pw_or (pt_cmpR op_ge (pv 4) (pe_callB call_len_str (by rfl) T.len b_len (pa_cons (pv 1) pa_nil)) (nomark _)) (pw_or (pt_not (pt_val (pe_isi T.isinst T.tuple b_tuple (pv 5)))) (pw_or1 (pt_cmpR op_ne (pe_callB call_len_seq (by rfl) T.len b_len (pa_cons (pv 5) pa_nil)) pe_int (nomark _)))))) (pss_one (ps_ret pe_bl)) pss_nil)
        (pss_cons (ps_set (i := 6) nd rfl (Or.inl rfl) (pe_call G1 hr1 rfl m1 k1 b1 .nil pass0 (pa_cons (pv 0) (pa_cons (pv 3) (pa_cons (pv 1) (pa_cons (pv 4) pa_nil))))))
        (pss_cons (ps_set (i := 7) nd rfl (Or.inl rfl) pe_str)
        (pss_cons (ps_if (pt_cmpR op_in_seq (pe_ix ix_tup (pv 5) pe_int (fun _ _ => rfl)) (pe_lst (pa_K pe_str (pa_K pe_str pa_nil))) rfl)
          (pss_cons (ps_set (i := 7) nd rfl (Or.inl rfl) (pe_slice sl_str (pv 1) (po_some (pv 4)) (po_some (pe_op op_add (pv 4) (pe_ix ix_tup (pv 5) pe_int (fun _ _ => rfl))))))
          (pss_one (ps_if (pt_cmpR op_notIn_seq (pv 7) (pv 6) rfl) (pss_one (ps_ret pe_bl)) pss_nil)))
          (pss_one (ps_if (PW.pt (pw_and (pt_cmpR (op_ne_nil hr.units0) (pv 6) (pe_lst pa_nil) (nomark _)) (pw_and1 (pt_cmpR op_eq (pe_ix ix_tup (pv 5) pe_int (fun _ _ => rfl)) pe_str (nomark _))))) (pss_one (ps_ret pe_bl)) pss_nil)))
        (pss_cons (ps_if (PW.pt (pw_or (pt_cmpR (op_ne_sameT hr5) (pe_call G2 hr1 rfl m2 k2 b2 .nil pass0 (pa_cons (pv 0) (pa_cons (pv 3) (pa_cons (pv 1) (pa_cons (pv 4) (pa_cons (pv 7) pa_nil)))))) (pv 5) (nomark _)) (pw_or1 (pt_cmpR op_eq (pe_ix ix_tup (pv 5) pe_int (fun _ _ => rfl)) pe_str (nomark _))))) (pss_one (ps_ret pe_bl)) pss_nil)
        (pss_one (ps_set (i := 4) nd rfl (Or.inl rfl) (pe_op op_add (pv 4) (pe_ix ix_tup (pv 5) pe_int (fun _ _ => rfl)))))))))))
      (pss_one (ps_ret (pe_and (pe_cmpR op_eq (pv 4) (pe_callB call_len_str (by rfl) T.len b_len (pa_cons (pv 1) pa_nil)) (nomark _)) (pe_one (pe_cmpR (op_eq_nil hr.units0) (pv 3) (pe_lst pa_nil) (nomark _))))))))), ?_⟩
    dsimp only [cxOf, Cx.nox, Cx.wish]
    have big := big1000
    have bigS := sizeLine_eq
    obtain ⟨hb1, hb6, htok, hbB⟩ := id hok
    refine seq_hide fun U hU => ?_
    refine ⟨Nat.zero_le _, fun pd npd => hU _ _ (seq_hide fun U hU => ?_)⟩
    have t1 := Same.new (o := .lst []) npd
    have hpd : upd H pd (.lst []) pd = some (.lst []) := upd_same
    have hpdz : pd ≠ z := hB.ne npd
    have hpdt : pd ≠ pt := (ne_of_none hpt npd).symm
    generalize upd H pd (.lst []) = H1 at *
    refine hU _ _ (seq_hide fun U hU => ?_)
    have RT1 : Rep z H1 (.ref pt) (.lst (ss.map stD)) := .lst (t1 _ _ hpt) hptz (RS.mono t1.x)
    refine ⟨_, rfl, _, _, _, _, rfl, RT1.ty, kit_lst K (.lst (ss.map stD)), _, rfl, iteF (hU _ _ (seq_hide fun U hU => ?_))⟩
    have hwl : ws.length = ss.length := by have := RS.length; simpa using this
    refine ⟨_, rfl, pt, rfl, ⟨_, SqL.of (t1 _ _ hpt)⟩, for_list (K := K) (a := pt) (xs := ws) (fun n σ H2 => ∃ ds i u5 u6 u7, σ = [some v, some (.str x), some (.ref pt), some (.ref pd), some (.int ((i : Nat) : Int)), u5, u6, u7] ∧ Same H H2 ∧ LDs z H2 pd ds ∧ Wk b x ds i (ss.drop n) ∧ LdBk b ds ∧ i ≤ x.length ∧ ds.length ≤ i)
      ⟨[], 0, _, _, _, rfl, t1, ⟨[], hpd, .nil⟩, hwk, fun d hd => (nomatch hd), Nat.zero_le _, Nat.le_refl _⟩ (fun n σ H2 _ ⟨_, _, _, _, _, _, s, _⟩ => SqL.of (s _ _ hpt)) ?_ ?_⟩
    · rintro n y σ H2 hn ⟨ds, i, u5, u6, u7, rfl, s2, hLD, hWk, hbk, hi, hdl⟩
      have hnl : n < ss.length := by have := (List.getElem?_eq_some_iff.mp hn).1; omega
      have ey : y = ws.getD n .non := by rw [List.getD_eq_getElem?_getD, hn]; rfl
      have Ry := (reps_st (t := n) RS hnl).mono s2.x (z := z)
      rw [← ey] at Ry
      have edr : ss.drop n = ss.getD n st0 :: ss.drop (n + 1) := by rw [List.drop_eq_getElem_cons hnl, getD_mem' st0 hnl]
      rw [edr] at hWk
      generalize ss.getD n st0 = st at *
      obtain ⟨hlt, m, ds', hst, hWk2, hbk2, hle2, hm, hdl2, hcut, hsome, hcase⟩ := wk_step hok hbk hdl hWk
      have hld := hbk.ok htok
      obtain ⟨ay, rfl, hayz, hay, hwl4⟩ := rep_stV Ry
      refine seq_hide fun U hU => ?_
      refine ⟨_, rfl, _, rfl, x, rfl, by omega, _, _, rfl, rfl, _, rfl, ?_⟩
      refine ite2 (fun g => absurd (of_decide_eq_true g) (by omega)) (fun _ => ?_)
      refine ⟨_, rfl, _, _, _, _, rfl, Ry.ty, kit_tup K (stD st), _, rfl, iteF ?_⟩
      refine ⟨_, rfl, ay, _, rfl, .inr (SqT.of hay), rfl, _, rfl, iteF (hU _ _ (seq_hide fun U hU => ?_))⟩
      refine ⟨_, rfl, _, rfl, _, rfl, _, rfl, z, v, b, pd, ds, x, i, rfl, R0.mono s2.x, hok, hLD, hld, hx, fun pm ys H3 t3 npm hpm hperm _ => hU _ _ (seq_hide fun U hU => hU _ _ ?_)⟩
      have s3 := s2.trans t3
      have hay3 := t3 _ _ hay
      have hLD3 := hLD.same t3
      have Ry3 := Ry.mono t3.x (z := z)
      have hyl : ys.length ≤ 1000 := by
        rw [hperm.length_eq]
        have h1 := (perm_fits (b := b) (ds := ds) (x := x) (i := i) hi).length_eq
        rw [← h1, List.length_map]
        exact Nat.le_trans (Nat.le_trans (List.length_filter_le _ _) (possL_few htok)) (by decide)
      refine seq_cut (J := fun σ' H4 => σ' = [some v, some (.str x), some (.ref pt), some (.ref pd), some (.int (i : Int)), some (.ref ay), some (.ref pm), some (.str m)] ∧ Same H3 H4) (fun U J => ?g1) ?g2
      case g1 =>
        refine ⟨_, rfl, ay, _, 2, _, rfl, rfl, SqT.of hay3, atI_nat (j := 2) rfl, by show (2 : Nat) ≤ _; omega, fun lo nlo => ?_⟩
        have t4 := Same.new (o := .lst [.str (Str.ofString "open"), .str (Str.ofString "close")]) nlo
        refine ⟨lo, _, rfl, .inl (SqL.of upd_same), rfl, rfl, _, rfl, ?_⟩
        have hay4 := t4 _ _ hay3
        have hpm4 := t4 _ _ hpm
        generalize upd H3 lo (.lst [.str (Str.ofString "open"), .str (Str.ofString "close")]) = H4 at *
        rcases hcase with ⟨em, hnil, hw⟩ | ⟨hmf, hw, hml, hcutm⟩
        · rw [show (if false = true then !inV (.str st.2.2.1) [.str (Str.ofString "open"), .str (Str.ofString "close")] else inV (.str st.2.2.1) [.str (Str.ofString "open"), .str (Str.ofString "close")]) = false by rw [if_neg Bool.false_ne_true]; exact in_no12 hw]
          refine iteF ?_
          rw [hnil] at hperm
          have eys : ys = [] := List.Perm.eq_nil hperm
          subst eys
          refine ⟨_, rfl, Nat.zero_le _, fun pe npe => ?_⟩
          have t5 := Same.new (o := .lst []) npe
          refine ⟨pm, pe, [], rfl, rfl, t5 _ _ hpm4, upd_same, _, rfl, iteF ?_⟩
          refine iteF ?_
          subst em
          exact J _ _ ⟨rfl, t4.trans t5⟩
        · rw [show (if false = true then !inV (.str st.2.2.1) [.str (Str.ofString "open"), .str (Str.ofString "close")] else inV (.str st.2.2.1) [.str (Str.ofString "open"), .str (Str.ofString "close")]) = true by rw [if_neg Bool.false_ne_true]; exact in_oc12 hw]
          refine iteT ?_
          refine seq_hide fun U2 hU2 => ?_
          have ecm : cutS x (some (i : Int)) (some ((i : Int) + st.2.1)) = m := by rw [hml]; exact hcutm
          refine ⟨_, rfl, _, rfl, _, rfl, _, rfl, _, rfl, ay, _, 1, _, rfl, rfl, SqT.of hay4, atI_nat (j := 1) rfl, _, _, rfl, rfl, _, rfl, _, rfl, by omega, hU2 _ _ ?_⟩
          have hin : inV (.str m) (ys.map V.str) = true := by
            rw [inV_strs, List.any_eq_true]
            exact ⟨m, hperm.mem_iff.mpr hmf, by simp⟩
          rw [ecm]
          refine ⟨_, rfl, _, rfl, pm, _, rfl, .inl (SqL.of hpm4), rfl, flat_strs ys, _, rfl, ?_⟩
          rw [hin]
          exact iteF (J _ _ ⟨rfl, t4⟩)
      case g2 =>
        rintro σ' H4 ⟨rfl, t4⟩
        have s4 := s3.trans t4
        have Ry4 := Ry3.mono t4.x (z := z)
        have hay4 := t4 _ _ hay3
        obtain ⟨dv, hpd4, RD4⟩ := hLD3.same t4
        have hayd : ay ≠ pd := ne_of hay4 hpd4 (by intro e; cases e)
        refine seq_hide fun U hU => ?_
        refine ⟨_, rfl, _, rfl, _, rfl, _, rfl, _, rfl, z, v, b, pd, ds, x, m, i, rfl, hB.same s4, hpdz, R0.mono s4.x, hok, ⟨dv, hpd4, RD4⟩, hld, hlt, hx, by omega, hsome, fun p H5 sx5 np hp hLD5 => ?_⟩
        rw [hst] at hp hLD5
        have hay5 := sx5 _ _ hayd hay4
        have s5 : Same H H5 := fun b' o e' => sx5 _ _ (ne_of_none e' npd) (s4 _ _ e')
        have Rp : Rep z H5 (.ref p) (stD st) := rep_st' hp ((hB.same s4).ne np) hwl4
        have Ra : Rep z H5 (.ref ay) (stD st) := rep_st' hay5 hayz hwl4
        refine ⟨_, rfl, z, z, _, Rp, Ra, dep_st 4 st, _, rfl, iteF ?_⟩
        refine ⟨_, rfl, ay, _, 2, _, rfl, rfl, SqT.of hay5, atI_nat (j := 2) rfl, rfl, _, rfl, ?_⟩
        rw [show decide (V.str st.2.2.1 = V.str (Str.ofString "cut")) = false from decide_eq_false (fun e => hcut (by injection e))]
        refine iteF (hU _ _ ?_)
        refine ⟨_, rfl, _, rfl, ay, _, 1, _, rfl, rfl, SqT.of hay5, atI_nat (j := 1) rfl, _, _, rfl, rfl, ?_⟩
        have eat : (i : Int) + st.2.1 = ((i + st.2.1.toNat : Nat) : Int) := by omega
        refine ⟨ds', i + st.2.1.toNat, some (.ref ay), some (.ref pm), some (.str m), ?_, s5, hLD5, hWk2, hbk2, hle2, hdl2⟩
        show [some v, some (.str x), some (.ref pt), some (.ref pd), some (.int ((i : Int) + st.2.1)), some (.ref ay), some (.ref pm), some (.str m)] = _
        rw [eat]
    · rintro σ H2 ⟨ds, i, u5, u6, u7, rfl, s2, hLD, hWk, hbk, hi, hdl⟩
      rw [hwl, List.drop_length] at hWk
      obtain ⟨rfl, rfl⟩ := wk_end hWk
      refine hU _ _ ?_
      obtain ⟨dv, hpd2, RD2⟩ := hLD
      have edv : dv = [] := by have := RD2.length; exact List.eq_nil_of_length_eq_zero this
      subst edv
      refine ⟨_, rfl, _, rfl, x, rfl, by omega, rfl, _, rfl, ?_⟩
      rw [show decide (V.int (x.length : Int) = V.int (x.length : Int)) = true from decide_eq_true rfl]
      refine iteT ?_
      refine ⟨_, rfl, Nat.zero_le _, fun pe npe => ⟨pd, pe, [], rfl, rfl, (Same.new npe) _ _ hpd2, upd_same, ?_⟩⟩
      exact q _ (s2.trans (Same.new npe))
end
end T1
namespace T1
open PySem L2
abbrev FRow := List LDr × Nat
def sumC (b : Bk) (x : Str) (S : List FRow) : Nat := (S.map fun r => cn b x r.1 r.2).sum
def sumM (x : Str) (S : List FRow) : Nat := (S.map fun r => 11 ^ (x.length - r.2)).sum
theorem sumC_snoc (b : Bk) (x : Str) (S : List FRow) (r : FRow) : sumC b x (S ++ [r]) = sumC b x S + cn b x r.1 r.2 := by
  unfold sumC
  rw [List.map_append, List.sum_append]
  simp
theorem sumM_snoc (x : Str) (S : List FRow) (r : FRow) : sumM x (S ++ [r]) = sumM x S + 11 ^ (x.length - r.2) := by
  unfold sumM
  rw [List.map_append, List.sum_append]
  simp
def Stk (S : List FRow) : Prop := ∀ j (h : j < S.length), j ≤ 10 * S[j].2
theorem Stk.push {S : List FRow} {r : FRow} (h : Stk S) (g : S.length ≤ 10 * r.2) : Stk (S ++ [r]) := fun j hj => by
  rw [List.length_append] at hj
  by_cases e : j < S.length
  · rw [List.getElem_append_left e]
    exact h j e
  · have e2 : j = S.length := by have : [r].length = 1 := rfl; omega
    subst e2
    rw [List.getElem_append_right (Nat.le_refl _)]
    simpa using g
theorem Stk.pop {S : List FRow} {r : FRow} (h : Stk (S ++ [r])) : Stk S ∧ S.length ≤ 10 * r.2 := by
  refine ⟨fun j hj => ?_, ?_⟩
  · have := h j (by rw [List.length_append]; omega)
    rw [List.getElem_append_left hj] at this
    exact this
  · have := h S.length (by rw [List.length_append]; show _ < _ + 1; omega)
    rw [List.getElem_append_right (Nat.le_refl _)] at this
    simpa using this
theorem Stk.len {S : List FRow} {n : Nat} (h : Stk S) (g : ∀ r ∈ S, r.2 ≤ n) : S.length ≤ 10 * n + 1 := by
  rcases Nat.eq_zero_or_pos S.length with e | e
  · omega
  · have h1 := h (S.length - 1) (by omega)
    have h2 := g S[S.length - 1] (List.getElem_mem _)
    omega
def RowAt (b : Bk) (x : Str) (z pf pr : Addr) (H : Hp) (r : FRow) (v : V) : Prop := ∃ a t d tv, v = .ref a ∧ (a ≠ pf ∧ a ≠ pr) ∧ (t ≠ pf ∧ t ≠ pr) ∧ (d ≠ pf ∧ d ≠ pr) ∧ H a = some (.lst [.ref t, .ref d, .int (r.2 : Int)]) ∧ H t = some (.lst tv) ∧ tv.length ≤ r.2 ∧ LDs z H d r.1 ∧ LdBk b r.1 ∧ r.2 ≤ x.length ∧ r.1.length ≤ r.2
section
variable {b : Bk} {x : Str} {z pf pr : Addr} {H H' : Hp}
theorem RowAt.same {r : FRow} {v : V} (h : RowAt b x z pf pr H r v) (s : Same H H') : RowAt b x z pf pr H' r v := by
  obtain ⟨a, t, d, tv, e, h1, h2, h3, h4, h5, h6, h7, h8⟩ := h
  exact ⟨a, t, d, tv, e, h1, h2, h3, s _ _ h4, s _ _ h5, h6, h7.same s, h8⟩
theorem RowAt.updL {r : FRow} {v : V} {p : Addr} {l l' : List V} (h : RowAt b x z pf pr H r v) (hp : H p = some (.lst l)) (e : p = pf ∨ p = pr) : RowAt b x z pf pr (upd H p (.lst l')) r v := by
  obtain ⟨a, t, d, tv, ev, h1, h2, h3, h4, h5, h6, ⟨dv, h7, h8⟩, h9⟩ := h
  have ne : ∀ {q : Addr}, q ≠ pf ∧ q ≠ pr → q ≠ p := fun g => by
    rcases e with e | e
    · rw [e]; exact g.1
    · rw [e]; exact g.2
  exact ⟨a, t, d, tv, ev, h1, h2, h3, by rw [upd_ne (ne h1)]; exact h4, by rw [upd_ne (ne h2)]; exact h5, h6, ⟨dv, by rw [upd_ne (ne h3)]; exact h7, Reps.updL hp h8 (noL_lds _)⟩, h9⟩
def RowsAt (b : Bk) (x : Str) (z pf pr : Addr) (H : Hp) (S : List FRow) (rv : List V) : Prop := Paired (RowAt b x z pf pr H) S rv
theorem paired_imp {α β : Type} {R Q : α → β → Prop} (f : ∀ a b, R a b → Q a b) {xs : List α} {ys : List β} (h : Paired R xs ys) : Paired Q xs ys := by
  induction h with
  | nil => exact .nil
  | cons h _ ih => exact .cons (f _ _ h) ih
theorem paired_len {α β : Type} {R : α → β → Prop} {xs : List α} {ys : List β} (h : Paired R xs ys) : xs.length = ys.length := by
  induction h with
  | nil => rfl
  | cons _ _ ih => rw [List.length_cons, List.length_cons, ih]
theorem paired_snoc {α β : Type} {R : α → β → Prop} {xs : List α} {ys : List β} {a : α} {c : β} (h : Paired R xs ys) (g : R a c) : Paired R (xs ++ [a]) (ys ++ [c]) := by
  induction h with
  | nil => exact .cons g .nil
  | cons h _ ih => exact .cons h ih
theorem paired_pop {α β : Type} {R : α → β → Prop} {xs : List α} {ys : List β} (h : Paired R xs ys) (g : ys ≠ []) : ∃ xs' a ys' c, xs = xs' ++ [a] ∧ ys = ys' ++ [c] ∧ Paired R xs' ys' ∧ R a c := by
  induction h with
  | nil => exact absurd rfl g
  | @cons a c xs ys h t ih =>
    by_cases e : ys = []
    · subst e
      cases t
      exact ⟨[], a, [], c, rfl, rfl, .nil, h⟩
    · obtain ⟨xs', a', ys', c', rfl, rfl, h1, h2⟩ := ih e
      exact ⟨a :: xs', a', c :: ys', c', rfl, rfl, .cons h h1, h2⟩
theorem rows_le {S : List FRow} {rv : List V} (h : RowsAt b x z pf pr H S rv) : ∀ r ∈ S, r.2 ≤ x.length := by
  unfold RowsAt at h
  induction h with
  | nil => exact fun r hr => nomatch hr
  | cons h _ ih =>
    intro r hr
    rcases List.mem_cons.mp hr with rfl | hr
    · obtain ⟨a, t, d, tv, _, _, _, _, _, _, _, _, _, g, _⟩ := h
      exact g
    · exact ih r hr
end
def conM (b : Bk) (x : Str) (ds : List LDr) (i : Nat) (m : Str) : Nat := if (stepL b ds x i m).1.2.2.1 = Str.ofString "cut" then 0 else cn b x (stepL b ds x i m).2 (i + (stepL b ds x i m).1.2.1.toNat)
theorem con_none {b : Bk} {x : Str} {ds : List LDr} {i : Nat} (hok : BkOk b) (hbk : LdBk b ds) (hi : i < x.length) (hf : fitL b ds x i = []) : ([Str.ofString ""].map (conM b x ds i)).sum = cn b x ds i := by
  have hf' := (fits_nil (by omega)).mpr hf
  rw [cn_plain hok.2.2.1 hbk hi hf']
  show conM b x ds i _ + 0 = _
  unfold conM
  rw [step_none hi hf', Nat.add_zero]
theorem con_some {b : Bk} {x : Str} {ds : List LDr} {i : Nat} (hok : BkOk b) (hbk : LdBk b ds) (hi : i < x.length) (hf : fitL b ds x i ≠ []) {ms : List Str} (hm : ms.Perm (fitL b ds x i)) : (ms.map (conM b x ds i)).sum = cn b x ds i := by
  rw [← cn_law hok hbk hi hf hm]
  congr 1
  apply List.map_congr_left
  intro m hmm
  obtain ⟨y, hy, rfl, hst⟩ := law_step hok hbk hi (hm.mem_iff.mp hmm)
  unfold conM
  rw [hst, if_neg (cutF_ne (take_oc ds i y.1 y.2)), take_many]
  rfl
theorem con_step {b : Bk} {x : Str} {ds : List LDr} {i : Nat} (hok : BkOk b) (hbk : LdBk b ds) (hi : i < x.length) (hdl : ds.length ≤ i) {m : Str} (hm : m ∈ fitL b ds x i ∨ m = Str.ofString "" ∧ fitL b ds x i = []) :
    LdBk b (stepL b ds x i m).2 ∧ i + (stepL b ds x i m).1.2.1.toNat ≤ x.length ∧ ((stepL b ds x i m).1.2.1.toNat : Int) = (stepL b ds x i m).1.2.1 ∧ 1 ≤ (stepL b ds x i m).1.2.1.toNat ∧ (stepL b ds x i m).2.length ≤ i + (stepL b ds x i m).1.2.1.toNat ∧ (m = Str.ofString "" ∨ m ∈ someL b ds) := by
  obtain ⟨hb1, hb6, htok, hbB⟩ := id hok
  have hld := hbk.ok htok
  rcases hm with hm | ⟨rfl, hf⟩
  · obtain ⟨y, hy, rfl, hst⟩ := law_step hok hbk hi hm
    have e1 : (takeL ds i y.1 y.2).1.2.1.toNat = y.1.length := by rw [take_many]; rfl
    have hsm := poss_sm htok hld (List.mem_filter.mp hy).1
    have hll := take_len ds i y.1 y.2
    rw [hst, e1]
    exact ⟨take_bk hbk (List.mem_filter.mp hy).1, fits_len hy, by rw [take_many], hsm.1, by have := hsm.1; omega, .inr (List.mem_filter.mp hm).1⟩
  · obtain ⟨l1, l2, l3, l4⟩ := plain_len b ds x i
    rw [step_none hi ((fits_nil (by omega)).mpr hf)]
    exact ⟨hbk, l4 hi, l3, l1, by show ds.length ≤ _; omega, .inl rfl⟩
theorem pow_lt {n i c : Nat} (hi : i < n) (hc : c ≤ 10) : c * 11 ^ (n - i - 1) < 11 ^ (n - i) := by
  have e : n - i = (n - i - 1) + 1 := by omega
  have h1 : 11 ^ (n - i) = 11 ^ (n - i - 1) * 11 := by rw [e, Nat.pow_succ]; simp
  have h2 : 0 < 11 ^ (n - i - 1) := Nat.pow_pos (by decide)
  have h3 : c * 11 ^ (n - i - 1) ≤ 10 * 11 ^ (n - i - 1) := Nat.mul_le_mul_right _ hc
  omega
theorem while_m {c : TT} {tb : TS} {D : Ends} {σ : St} {H : Hp} (Pv : Nat → St → Hp → Prop) (h0 : ∃ m, Pv m σ H)
    (hs : ∀ m σ H, Pv m σ H → c σ H fun b H1 => if b = true then tb { D with nx := fun σ' H' => ∃ m', m' < m ∧ Pv m' σ' H', ct := fun σ' H' => ∃ m', m' < m ∧ Pv m' σ' H', bk := D.nx } σ H1 else D.nx σ H1)
    (mono : ∀ σ H Q Q', (∀ b H1, Q b H1 → Q' b H1) → c σ H Q → c σ H Q') : tWhile c tb D σ H := by
  refine ⟨Pv, h0, ?_⟩
  intro m σ H p
  refine mono σ H _ _ (fun b H1 q => ?_) (hs m σ H p)
  cases b with
  | true => exact ⟨_, fun σ' H' p' => p', q⟩
  | false => exact q
theorem tongue_lastV (ds : List LDr) : atI ([V.int 0] ++ ds.map fun d => V.int d.2.1) (-1) = some (V.int (tongueL ds)) := by
  unfold tongueL
  rcases List.eq_nil_or_concat ds with e | ⟨l, d, e⟩
  · subst e
    exact atI_last [] _
  · rw [e, List.concat_eq_append, List.getLast?_append, List.map_append, ← List.append_assoc]
    exact atI_last _ _
end T1
namespace T1
open PySem L2
theorem no_escF {b : Bk} {x : Str} {ds : List LDr} {i : Nat} (hb : BkOk b) (hd : LdBk b ds) (hi : i < x.length) {m : Str} (hm : m ∈ fitL b ds x i) : (⟨#[x.cps.getD i 0]⟩ : Str) ≠ (b.getD (tongueL ds).toNat tg0).1 := by
  have htok := hb.2.2.1
  obtain ⟨y, hy, rfl, _⟩ := law_step hb hd hi hm
  have hyp := (List.mem_filter.mp hy).1
  have hs := poss_sm htok (hd.ok htok) hyp
  have hf := fits_all (Nat.le_of_lt hi) hy
  have hc := fit_first (Nat.le_of_lt hi) hf hs.1
  obtain ⟨tN, htN, htl⟩ := tongue_nat (hd.ok htok) hb.1
  rw [htN]
  exact esc_free hb (getD_mem tg0 htl) (some_marks hd (poss_some hyp)) hc
theorem range_ints (ds : List LDr) : (List.range ds.length).map (fun i => V.int (ds.getD i ld0).2.1) = ds.map fun d => V.int d.2.1 := by
  apply List.ext_getElem
  · simp
  · intro n h1 h2
    have h3 : n < ds.length := by simpa using h2
    rw [List.getElem_map, List.getElem_map, List.getElem_range, getD_mem' ld0 h3]
inductive spAllFree : List V → Hp → VK → XK → Prop where
  | mk {vs : List V} {H : Hp} {Q : VK} {E : XK} (z v b x : _) (c1 : vs = [v, .str x, .int 2]) (c2 : Bag z H) (c3 : Rep z H v (bkD b)) (c4 : BkOk b) (c9 : x.length ≤ 20000)
    (q : ∀ p fv H', Same H H' → H' p = some (.lst fv) → fv.length = min (cn b x [] 0) 2 → Q (.ref p) H') : spAllFree vs H Q E
section
variable {P : Program} {w : World} {K : PySem.W.Frag} {mg : Str → Option Value} {base : Heap}
theorem scAllFree : FnScope ["book", "text", "most", "found", "rows", "told", "doors", "place", "marks", "tongue", "mark", "further", "step"] ["book", "text", "most"] (defScope lAllFree) := ⟨rfl, rfl, rfl, by decide +kernel, rfl, by decide +kernel, by decide +kernel⟩
theorem ndDr1 : (["door"] : List Str).Nodup := by decide +kernel
set_option maxHeartbeats 0 in
theorem ok_allFree {f f1 f2 : Addr} {fd fd1 fd2 : FuncData} (F : Fun K "_law_all_free" "_law_all_free" lAllFree f fd) (T : TxtB mg) (T2 : Txt2 mg)
    (k1 : PySem.W.keepIn K (.ref f1) = true) (b1 : Binds K fd1 ["book", "doors", "text", "place"] []) (m1 : mg "_law_fitting" = some (.ref f1)) (G1 : FnOk P w K mg base CX0 1 f1 fd1 ["book", "doors", "text", "place"] spFitting)
    (k2 : PySem.W.keepIn K (.ref f2) = true) (b2 : Binds K fd2 ["book", "doors", "text", "place", "mark"] []) (m2 : mg "_law_step" = some (.ref f2)) (G2 : FnOk P w K mg base CX0 1 f2 fd2 ["book", "doors", "text", "place", "mark"] spStep) : FnOk P w K mg base CX0 2 f fd ["book", "text", "most"] spAllFree := by
  refine F.ok scAllFree (fun vs H Q E h => ?_) (fun cdv A outer s H vs Q E hr h => ?_)
  · obtain ⟨z, v, b, x, rfl, _⟩ := h
    rfl
  · obtain ⟨z, v, b, x, rfl, hB, R0, hok, hx, q⟩ := h
    have nd := scAllFree.nd
    have hr1 : Room 1 _ := hr.mono (by decide)
    refine ⟨_, pss_cons (ps_set (i := 3) nd rfl (Or.inl rfl) (pe_lst pa_nil))
      (pss_cons (ps_set (i := 4) nd rfl (Or.inl rfl) (pe_lst (pa_cons (pe_lst (pa_cons (pe_lst pa_nil) (pa_cons (pe_lst pa_nil) (pa_cons pe_int pa_nil)))) pa_nil)))
      (pss_cons (ps_while PassesOwn.never (PW.pt (pw_and (pt_cmpR (op_ne_nil hr.units0) (pv 4) (pe_lst pa_nil) (nomark _)) (pw_and1 (pt_cmpR op_lt (pe_callB call_len_seq (by rfl) T.len b_len (pa_cons (pv 3) pa_nil)) (pv 2) (nomark _)))))
        (pss_cons (ps_asg (pe_bm0 PySem.F.plainAttrs_list PySem.F.slot_list_pop PySem.F.type_list_pop mt_pop (pv 4)) (pg_tupL rfl (pgs_cons (pg_name (i := 5) nd rfl (Or.inl rfl)) (pgs_cons (pg_name (i := 6) nd rfl (Or.inl rfl)) (pgs_cons (pg_name (i := 7) nd rfl (Or.inl rfl)) pgs_nil)))))
        (pss_one (ps_if (pt_cmpR op_eq (pv 7) (pe_callB call_len_str (by rfl) T.len b_len (pa_cons (pv 1) pa_nil)) (nomark _))
          (pss_one (ps_if (pt_cmpR (op_eq_nil hr.units0) (pv 6) (pe_lst pa_nil) (nomark _)) (pss_one (ps_expr (pe_bm PySem.F.plainAttrs_list PySem.F.slot_list_append PySem.F.type_list_append mt_append (pv 3) (pa_cons (pv 5) pa_nil)))) pss_nil))
          (pss_cons (ps_set (i := 8) nd rfl (Or.inl rfl) (pe_call G1 hr1 rfl m1 k1 b1 .nil pass0 (pa_cons (pv 0) (pa_cons (pv 6) (pa_cons (pv 1) (pa_cons (pv 7) pa_nil))))))
          (pss_cons (ps_set (i := 9) nd rfl (Or.inl rfl) (pe_ix ix_list (pe_op op_cat (pe_lst (pa_cons pe_int pa_nil)) (pe_comp1 (N' := ["door"]) (js := [none]) rfl rfl (blk_of (defScope lAllFree) (by decide +kernel)) trivial (pi_list (pv 6)) (fun cl s H fp => pg_name (i := 0) ndDr1 rfl (Or.inl rfl)) (fun cl s H fp => pts_nil) (fun cl s H fp => pe_ix ix_tupB (pv 0) pe_int (fun _ _ => rfl)))) (pe_un un_neg pe_int) (fun _ _ => rfl)))
          (pss_cons (ps_if (PW.pt (pw_or (pt_cmpR (op_eq_nil hr.units0) (pv 8) (pe_lst pa_nil) (nomark _)) (pw_or1 (pt_cmpR op_eq (pe_ix ix_str (pv 1) (pv 7) (fun _ _ => rfl)) (pe_ix ix_tup (pe_ix ix_tup (pv 0) (pv 9) (fun _ _ => rfl)) pe_int (fun _ _ => rfl)) (nomark _))))) (pss_one (ps_set (i := 8) nd rfl (Or.inl rfl) (pe_lst (pa_K pe_str pa_nil)))) pss_nil)
          (pss_one (ps_for PassesOwn.never rfl (pi_list (pv 8)) (pg_name (i := 10) nd rfl (Or.inl rfl))
            (pss_cons (ps_set (i := 11) nd rfl (Or.inl rfl) (pe_callTy call_list_of (by rfl) T2.list b_list (pa_cons (pv 6) pa_nil)))
            (pss_cons (ps_set (i := 12) nd rfl (Or.inl rfl) (pe_call G2 hr1 rfl m2 k2 b2 .nil pass0 (pa_cons (pv 0) (pa_cons (pv 11) (pa_cons (pv 1) (pa_cons (pv 7) (pa_cons (pv 10) pa_nil)))))))
            (pss_one (ps_if (pt_cmpR op_ne (pe_ix ix_tup (pv 12) pe_int (fun _ _ => rfl)) pe_str (nomark _)) (pss_one (ps_expr (pe_bm PySem.F.plainAttrs_list PySem.F.slot_list_append PySem.F.type_list_append mt_append (pv 4) (pa_cons (pe_lst (pa_B (pe_op op_cat (pv 5) (pe_lst (pa_cons (pv 12) pa_nil))) (pa_cons (pv 11) (pa_B (pe_op op_add (pv 7) (pe_ix ix_tup (pv 12) pe_int (fun _ _ => rfl))) pa_nil)))) pa_nil)))) pss_nil)))))))))))))
      (pss_one (ps_ret (pv 3))))), ?_⟩
    dsimp only [cxOf, Cx.nox, Cx.wish]
    have big := big1000
    have bigS := sizeLine_eq
    obtain ⟨hb1, hb6, htok, hbB⟩ := id hok
    obtain ⟨a0, xs0, rfl, ha0z, ha0, hx0l, RB⟩ := rep_book R0
    refine seq_hide fun U hU => ?_
    refine ⟨Nat.zero_le _, fun pf npf => hU _ _ (seq_hide fun U hU => ?_)⟩
    have s1 := Same.new (o := .lst []) npf
    have hpf1 : upd H pf (.lst []) pf = some (.lst []) := upd_same
    generalize upd H pf (.lst []) = H1 at *
    refine ⟨Nat.zero_le _, fun pt npt => ⟨Nat.zero_le _, fun pd npd => ⟨by show (3 : Nat) ≤ _; omega, fun pa npa => ⟨by show (1 : Nat) ≤ _; omega, fun pr npr => hU _ _ (seq_hide fun U hU => ?_)⟩⟩⟩⟩
    have t2 := Same.new (o := .lst []) npt
    have hpt2 : upd H1 pt (.lst []) pt = some (.lst []) := upd_same
    have hpf2 := t2 _ _ hpf1
    have s2 := s1.trans t2
    have htf : pt ≠ pf := (ne_of_none hpf1 npt).symm
    generalize upd H1 pt (.lst []) = H2 at *
    have t3 := Same.new (o := .lst []) npd
    have hpd3 : upd H2 pd (.lst []) pd = some (.lst []) := upd_same
    have hpf3 := t3 _ _ hpf2
    have hpt3 := t3 _ _ hpt2
    have s3 := s2.trans t3
    have hdf : pd ≠ pf := (ne_of_none hpf2 npd).symm
    generalize upd H2 pd (.lst []) = H3 at *
    have t4 := Same.new (o := .lst [.ref pt, .ref pd, .int 0]) npa
    have hpa4 : upd H3 pa (.lst [.ref pt, .ref pd, .int 0]) pa = some (.lst [.ref pt, .ref pd, .int 0]) := upd_same
    have hpf4 := t4 _ _ hpf3
    have hpt4 := t4 _ _ hpt3
    have hpd4 := t4 _ _ hpd3
    have s4 := s3.trans t4
    have haf : pa ≠ pf := (ne_of_none hpf3 npa).symm
    generalize upd H3 pa (.lst [.ref pt, .ref pd, .int 0]) = H4 at *
    have t5 := Same.new (o := .lst [.ref pa]) npr
    have hpr5 : upd H4 pr (.lst [.ref pa]) pr = some (.lst [.ref pa]) := upd_same
    have hrf : pr ≠ pf := (ne_of_none hpf4 npr).symm
    have har : pa ≠ pr := ne_of_none hpa4 npr
    have htr : pt ≠ pr := ne_of_none hpt4 npr
    have hdr : pd ≠ pr := ne_of_none hpd4 npr
    have npr0 : H pr = none := s4.free npr
    have hpf5 := t5 _ _ hpf4
    have s5 := s4.trans t5
    have row0 : RowAt b x z pf pr (upd H4 pr (.lst [.ref pa])) ([], 0) (.ref pa) := ⟨pa, pt, pd, [], rfl, ⟨haf, har⟩, ⟨htf, htr⟩, ⟨hdf, hdr⟩, t5 _ _ hpa4, t5 _ _ hpt4, Nat.zero_le _, ⟨[], t5 _ _ hpd4, .nil⟩, fun d hd => (nomatch hd), Nat.zero_le _, Nat.zero_le _⟩
    generalize upd H4 pr (.lst [.ref pa]) = H5 at *
    clear t2 t3 t4 t5 hpt2 hpt3 hpt4 hpd3 hpd4 hpa4 hpf1 hpf2 hpf3 hpf4 s1 s2 s3 s4 npt npd npa npr
    refine while_m (fun m σ H6 => ∃ S rv fv u5 u6 u7 u8 u9 u10 u11 u12, σ = [some (.ref a0), some (.str x), some (.int 2), some (.ref pf), some (.ref pr), u5, u6, u7, u8, u9, u10, u11, u12] ∧ Same H H6 ∧ H6 pr = some (.lst rv) ∧ RowsAt b x z pf pr H6 S rv ∧ H6 pf = some (.lst fv) ∧ fv.length + sumC b x S = cn b x [] 0 ∧ fv.length ≤ 2 ∧ Stk S ∧ m = sumM x S)
      ⟨_, [([], 0)], _, _, _, _, _, _, _, _, _, _, rfl, s5, hpr5, .cons row0 .nil, hpf5, by show 0 + (cn b x [] 0 + 0) = _; omega, Nat.zero_le _, fun j hj => by (have : j < 1 := hj); omega, rfl⟩ ?_ ?_
    · rintro m σ H6 ⟨S, rv, fv, u5, u6, u7, u8, u9, u10, u11, u12, rfl, s6, hpr, hRW, hpf, hsum, hf2, hstk, rfl⟩
      have hSl := paired_len hRW
      refine ⟨_, rfl, Nat.zero_le _, fun pe npe => ?_⟩
      have t7 := Same.new (o := .lst []) npe
      have s7 := s6.trans t7
      have hpr7 := t7 _ _ hpr
      have hpf7 := t7 _ _ hpf
      have hRW7 : RowsAt b x z pf pr _ S rv := paired_imp (fun r v h => h.same t7) hRW
      refine ⟨pr, pe, rv, rfl, rfl, hpr7, upd_same, _, rfl, ?_⟩
      generalize upd H6 pe (.lst []) = H7 at *
      refine ite2 (fun g => ?_) (fun g => iteF (hU _ _ ⟨_, rfl, q pf fv H7 s7 hpf7 ?_⟩))
      · have hne : rv ≠ [] := fun e => by rw [e] at g; cases g
        refine ⟨_, rfl, pf, _, rfl, .inl (SqL.of hpf7), _, rfl, _, _, rfl, rfl, _, rfl, ite2 (fun g2 => ?_) (fun g2 => hU _ _ ⟨_, rfl, q pf fv H7 s7 hpf7 ?_⟩)⟩
        · have hfl : fv.length < 2 := by have := of_decide_eq_true g2; omega
          obtain ⟨S', r, rv', y, eS, erv, hRW', hrow⟩ := paired_pop hRW7 hne
          subst eS erv
          obtain ⟨hstk', hstl⟩ := hstk.pop
          rw [sumC_snoc] at hsum
          rw [sumM_snoc]
          obtain ⟨ds, i⟩ := r
          dsimp only at hsum hstl ⊢
          refine seq_hide fun U hU => ?_
          refine ⟨_, rfl, .inl ⟨rfl, _, SqL.of hpr7⟩, pr, _, y, rfl, rfl, hpr7, by simp, ?_⟩
          rw [List.dropLast_concat]
          have hpr8 : upd H7 pr (.lst rv') pr = some (.lst rv') := upd_same
          have hpf8 : upd H7 pr (.lst rv') pf = some (.lst fv) := by rw [upd_ne hrf.symm]; exact hpf7
          have hRW8 : RowsAt b x z pf pr (upd H7 pr (.lst rv')) S' rv' := paired_imp (fun r v h => h.updL hpr7 (.inr rfl)) hRW'
          have hrow8 := hrow.updL (l' := rv') hpr7 (.inr rfl)
          have s8 : Same H (upd H7 pr (.lst rv')) := fun b' o e' => by rw [upd_ne (ne_of_none e' npr0)]; exact s7 _ _ e'
          generalize upd H7 pr (.lst rv') = H8 at *
          obtain ⟨a, t, d, tv, rfl, hna, hnt, hnd, ha, ht, htl, ⟨dv, hd, RD⟩, hbk, hi, hdl⟩ := hrow8
          dsimp only at ha htl RD hbk hi hdl
          have hdvl : dv.length = ds.length := by have := RD.length; simpa using this
          have hS'l : S'.length ≤ 10 * x.length + 1 := hstk'.len (rows_le hRW8)
          have hrv'l : rv'.length = S'.length := (paired_len hRW8).symm
          refine ⟨a, _, rfl, SqL.of ha, rfl, _, _, rfl, _, _, rfl, _, _, rfl, rfl, hU _ _ ?_⟩
          refine ⟨_, rfl, _, rfl, x, rfl, by omega, rfl, _, rfl, ite2 (fun g3 => ?_) (fun g3 => ?_)⟩
          · have g3 : i = x.length := by
              have g3 := of_decide_eq_true g3
              injection g3 with g3
              omega
            rw [g3, cn_end] at hsum
            rw [g3, Nat.sub_self, Nat.pow_zero]
            refine ⟨_, rfl, Nat.zero_le _, fun pe2 npe2 => ?_⟩
            have t9 := Same.new (o := .lst []) npe2
            refine ⟨d, pe2, dv, rfl, rfl, t9 _ _ hd, upd_same, _, rfl, ?_⟩
            have hpf9 := t9 _ _ hpf8
            have hpr9 := t9 _ _ hpr8
            have s9 := s8.trans t9
            have hRW9 : RowsAt b x z pf pr _ S' rv' := paired_imp (fun r v h => h.same t9) hRW8
            generalize upd H8 pe2 (.lst []) = H9 at *
            refine ite2 (fun g4 => ?_) (fun g4 => ?_)
            · have e0 : ds = [] := by
                have : dv = [] := List.isEmpty_iff.mp g4
                rw [this] at hdvl
                exact List.eq_nil_of_length_eq_zero hdvl.symm
              rw [if_pos e0] at hsum
              refine ⟨_, rfl, .inl ⟨rfl, _, SqL.of hpf9⟩, _, rfl, pf, _, _, rfl, rfl, hpf9, by omega, ?_⟩
              refine ⟨sumM x S', by omega, S', rv', fv ++ [.ref t], _, _, _, _, _, _, _, _, rfl, fun b' o e' => by rw [upd_ne (ne_of_none e' npf)]; exact s9 _ _ e', by rw [upd_ne hrf]; exact hpr9, paired_imp (fun r v h => h.updL hpf9 (.inl rfl)) hRW9, upd_same, ?_, ?_, hstk', rfl⟩
              · rw [List.length_append]; show _ + 1 + _ = _; omega
              · rw [List.length_append]; show _ + 1 ≤ _; omega
            · have e0 : ds ≠ [] := fun e => by
                rw [e] at hdvl
                rw [List.eq_nil_of_length_eq_zero hdvl] at g4
                exact g4 rfl
              rw [if_neg e0] at hsum
              exact ⟨sumM x S', by omega, S', rv', fv, _, _, _, _, _, _, _, _, rfl, s9, hpr9, hRW9, hpf9, by omega, hf2, hstk', rfl⟩
          · have hlt : i < x.length := by
              have g3 := of_decide_eq_false (by simpa using g3)
              by_cases h : i = x.length
              · exact absurd (by rw [h]) g3
              · omega
            have hld := hbk.ok htok
            refine seq_hide fun U hU => ?_
            refine ⟨_, rfl, _, rfl, _, rfl, _, rfl, z, .ref a0, b, d, ds, x, i, rfl, R0.mono s8.x, hok, ⟨dv, hd, RD⟩, hld, hx, fun pm ys H9 t9 npm hpm hperm _ => hU _ _ (seq_hide fun U hU => ?_)⟩
            have hmr : pm ≠ pr := (ne_of_none hpr8 npm).symm
            refine ⟨by show (1 : Nat) ≤ _; omega, fun pz npz => ?_⟩
            have t10 := Same.new (o := .lst [.int 0]) npz
            have hpz : upd H9 pz (.lst [.int 0]) pz = some (.lst [.int 0]) := upd_same
            have T10 := t9.trans t10
            have hpm10 := t10 _ _ hpm
            generalize upd H9 pz (.lst [.int 0]) = H10 at *
            have hd10 := T10 _ _ hd
            refine ⟨_, rfl, d, rfl, ⟨_, SqL.of hd10⟩, fun pC npC => ?_⟩
            have hdC : d ≠ pC := ne_of_none hd10 npC
            refine loop_new (fun j => some (V.int (ds.getD j ld0).2.1)) (fun σ => ∃ u, σ = [u]) ⟨none, rfl⟩ npC (by omega) (itok_lst (xs := dv) (by rw [upd_ne hdC]; exact hd10) hdC) (fun j σ H11 C hj ⟨u, hu⟩ t11 hC => ?_) (fun σ H11 t11 hC11 => ?_)
            · subst hu
              obtain ⟨ad, e, _, had⟩ := rep_ld ((reps_ld (ds := ds) (i := j) RD (by omega)).mono (T10.trans t11).x)
              rw [e]
              dsimp only [tYes, gName]
              rw [if_pos rfl]
              exact ⟨_, rfl, ad, _, 1, _, rfl, rfl, SqT.of had, atI_nat (j := 1) rfl, hC _ _ ⟨_, rfl⟩ (Same.refl _)⟩
            · rw [flatN_map, hdvl, range_ints] at hC11
              have T11 := T10.trans t11
              have hpm11 := t11 _ _ hpm10
              refine ⟨pz, pC, [.int 0], _, rfl, rfl, t11 _ _ hpz, hC11, by show 1 + (ds.map _).length ≤ _; rw [List.length_map]; omega, fun pc npc => ?_⟩
              refine ⟨1, rfl, pc, _, -1, _, rfl, rfl, SqL.of upd_same, tongue_lastV ds, hU _ _ ?_⟩
              have t12 := Same.new (o := .lst ([.int 0] ++ ds.map fun d => V.int d.2.1)) npc
              have T12 := T11.trans t12
              have hpm12 := t12 _ _ hpm11
              generalize upd H11 pc (.lst ([.int 0] ++ ds.map fun d => V.int d.2.1)) = H12 at *
              have hfl10 : (fitL b ds x i).length ≤ 10 := by
                have h1 := (perm_fits (b := b) (ds := ds) (x := x) (i := i) hi).length_eq
                rw [← h1, List.length_map]
                exact Nat.le_trans (List.length_filter_le _ _) (possL_few htok)
              refine seq_cut (J := fun σ' H13 => ∃ (pm2 : Addr) (ms : List Str), σ' = [some (.ref a0), some (.str x), some (.int 2), some (.ref pf), some (.ref pr), some (.ref t), some (.ref d), some (.int (i : Int)), some (.ref pm2), some (.int (tongueL ds)), u10, u11, u12] ∧ Same H8 H13 ∧ pm2 ≠ pr ∧ H13 pm2 = some (.lst (ms.map V.str)) ∧ (∀ m ∈ ms, m ∈ fitL b ds x i ∨ m = Str.ofString "" ∧ fitL b ds x i = []) ∧ (ms.map (conM b x ds i)).sum = cn b x ds i ∧ ms.length ≤ 10) (fun U J => ?g1) ?g2
              case g1 =>
                refine ⟨_, rfl, Nat.zero_le _, fun pe3 npe3 => ?_⟩
                have t13 := Same.new (o := .lst []) npe3
                have T13 := T12.trans t13
                have hpm13 := t13 _ _ hpm12
                refine ⟨pm, pe3, _, rfl, rfl, hpm13, upd_same, _, rfl, ?_⟩
                generalize upd H12 pe3 (.lst []) = H13 at *
                by_cases hnil : ys = []
                · rw [hnil] at hperm ⊢
                  have hf0 : fitL b ds x i = [] := List.Perm.eq_nil hperm.symm
                  refine iteT (iteT ⟨by show (1 : Nat) ≤ _; omega, fun pk npk => ?_⟩)
                  have t14 := Same.new (o := .lst [.str (Str.ofString "")]) npk
                  exact J _ _ ⟨pk, [Str.ofString ""], rfl, T13.trans t14, (ne_of_none (T13 _ _ hpr8) npk).symm, upd_same, fun m hm => .inr ⟨List.mem_singleton.mp hm, hf0⟩, con_none hok hbk hlt hf0, by show 1 ≤ 10; decide⟩
                · have hf0 : fitL b ds x i ≠ [] := fun e => by rw [e] at hperm; exact hnil (List.Perm.eq_nil hperm)
                  have eem : (ys.map V.str).isEmpty = false := by
                    cases ys with
                    | nil => exact absurd rfl hnil
                    | cons _ _ => rfl
                  rw [eem]
                  refine iteF ?_
                  obtain ⟨m0, hm0⟩ := List.exists_mem_of_ne_nil _ hf0
                  have hesc := no_escF hok hbk hlt hm0
                  obtain ⟨tN, htN, htl2⟩ := tongue_nat hld hb1
                  have htoN : (tongueL ds).toNat = tN := by rw [htN]; rfl
                  rw [htoN] at hesc
                  obtain ⟨c, dd, ys2, ec, hcz, hdz, hc, hd2, hyl, Ry⟩ := rep_tongue ((reps_tongue (b := b) (i := tN) RB htl2).mono (s8.trans T13).x)
                  have exv : xs0[tN]? = some (.ref c) := by
                    have h1 : tN < xs0.length := by omega
                    have h2 : xs0.getD tN .non = xs0[tN] := by simp [h1]
                    rw [List.getElem?_eq_getElem h1, ← h2, ec]
                  have hxi : x.cps.toList[i]? = some (x.cps.getD i 0) := by
                    have : i < x.cps.size := hlt
                    simp [Array.getD, this]
                  refine ⟨_, rfl, _, rfl, x, (i : Int), _, rfl, rfl, by omega, atI_nat hxi, _, rfl, _, rfl, a0, xs0, tongueL ds, _, rfl, rfl, SqT.of ((s8.trans T13) _ _ ha0), by rw [htN]; exact atI_nat exv, c, _, 0, _, rfl, rfl, SqT.of hc, atI_nat (j := 0) rfl, rfl, _, rfl, ?_⟩
                  rw [show decide (V.str (⟨#[x.cps.getD i 0]⟩ : Str) = V.str (b.getD tN tg0).1) = false from decide_eq_false (fun e => hesc (by injection e))]
                  refine iteF ?_
                  exact J _ _ ⟨pm, ys, rfl, T13, hmr, hpm13, fun m hm => .inl (hperm.mem_iff.mp hm), con_some hok hbk hlt hf0 hperm, by rw [hperm.length_eq]; exact hfl10⟩
              case g2 =>
                rintro σ' H13 ⟨pm2, ms, rfl, T13, hm2r, hpm2, hms, hcon, hml⟩
                have hpr13 := T13 _ _ hpr8
                have hRW13 : RowsAt b x z pf pr H13 S' rv' := paired_imp (fun r v h => h.same T13) hRW8
                have s13 := s8.trans T13
                have hd13 := T13 _ _ hd
                have ht13 := T13 _ _ ht
                have hpf13 := T13 _ _ hpf8
                have RD13 := RD.mono T13.x (z := z)
                clear T13 T12 T11 T10 t9 t10 t11 t12 hpm10 hpm11 hpm12 hpm hd10 hC11
                refine ⟨_, rfl, pm2, rfl, ⟨_, SqL.of hpm2⟩, for_list (K := K) (a := pm2) (xs := ms.map V.str) (fun n σ H14 => ∃ S2 rv2 v10 v11 v12, σ = [some (.ref a0), some (.str x), some (.int 2), some (.ref pf), some (.ref pr), some (.ref t), some (.ref d), some (.int (i : Int)), some (.ref pm2), some (.int (tongueL ds)), v10, v11, v12] ∧ SameX pr H13 H14 ∧ H14 pr = some (.lst rv2) ∧ RowsAt b x z pf pr H14 S2 rv2 ∧ sumC b x S2 = sumC b x S' + ((ms.take n).map (conM b x ds i)).sum ∧ sumM x S2 ≤ sumM x S' + n * 11 ^ (x.length - i - 1) ∧ S2.length ≤ S'.length + n ∧ Stk S2)
                  ⟨S', rv', _, _, _, rfl, .refl, hpr13, hRW13, by simp, by simp, Nat.le_refl _, hstk'⟩ (fun n σ H14 _ ⟨_, _, _, _, _, _, sx, _⟩ => SqL.of (sx _ _ hm2r hpm2)) ?_ ?_⟩
                · rintro n y σ H14 hn ⟨S2, rv2, v10, v11, v12, rfl, sx14, hpr14, hRW14, hsc, hsm, hsl, hst2⟩
                  have hnl : n < ms.length := by have := (List.getElem?_eq_some_iff.mp hn).1; simpa using this
                  have ey : y = .str ms[n] := by
                    rw [List.getElem?_map, List.getElem?_eq_getElem hnl] at hn
                    injection hn with hn
                    exact hn.symm
                  subst ey
                  have htk : (ms.take (n + 1)).map (conM b x ds i) = (ms.take n).map (conM b x ds i) ++ [conM b x ds i ms[n]] := by
                    rw [List.take_add_one, List.getElem?_eq_getElem hnl, List.map_append]
                    rfl
                  have hmm := hms _ (List.getElem_mem hnl)
                  generalize ms[n] = mk at *
                  obtain ⟨g1, g2, g3, g4, g5, g6⟩ := con_step hok hbk hlt hdl hmm
                  have s14 : Same H H14 := fun b' o e' => sx14 _ _ (ne_of_none e' npr0) (s13 _ _ e')
                  have hd14 := sx14 _ _ hnd.2 hd13
                  have ht14 := sx14 _ _ hnt.2 ht13
                  have RD14 := Reps.butL hpr13 sx14 RD13 (noL_lds _)
                  refine seq_hide fun U hU => ?_
                  refine ⟨_, rfl, d, _, rfl, .inl (SqL.of hd14), fun pu npu => hU _ _ (seq_hide fun U hU => ?_)⟩
                  have t15 := Same.new (o := .lst dv) npu
                  have hpu : upd H14 pu (.lst dv) pu = some (.lst dv) := upd_same
                  have s15 := s14.trans t15
                  have huz : pu ≠ z := (hB.same s14).ne npu
                  generalize upd H14 pu (.lst dv) = H15 at *
                  refine ⟨_, rfl, _, rfl, _, rfl, _, rfl, _, rfl, z, .ref a0, b, pu, ds, x, mk, i, rfl, hB.same s15, huz, R0.mono s15.x, hok, ⟨dv, hpu, RD14.mono t15.x⟩, hld, hlt, hx, by omega, g6, fun p H16 sx16 np hp hLD16 => hU _ _ ?_⟩
                  have T16 : Same H14 H16 := fun b' o e' => sx16 _ _ (ne_of_none e' npu) (t15 _ _ e')
                  have hur : pu ≠ pr := (ne_of_none hpr14 npu).symm
                  have hpf14 := sx14 _ _ hrf.symm hpf13
                  have huf : pu ≠ pf := (ne_of_none hpf14 npu).symm
                  have hpr16 := T16 _ _ hpr14
                  have ht16 := T16 _ _ ht14
                  have hRW16 : RowsAt b x z pf pr H16 S2 rv2 := paired_imp (fun r v h => h.same T16) hRW14
                  have hrvl : rv2.length = S2.length := (paired_len hRW14).symm
                  have hpf16 := T16 _ _ hpf14
                  have hS2l : S2.length ≤ 10 * x.length + 1 := hst2.len (rows_le hRW14)
                  refine ⟨_, rfl, p, _, 2, _, rfl, rfl, SqT.of hp, atI_nat (j := 2) rfl, rfl, _, rfl, ite2 (fun gg => ?_) (fun gg => ?_)⟩
                  · have hw : (stepL b ds x i mk).1.2.2.1 ≠ Str.ofString "cut" := fun e => by
                      rw [decide_eq_true (by rw [e])] at gg
                      cases gg
                    have hcm : conM b x ds i mk = cn b x (stepL b ds x i mk).2 (i + (stepL b ds x i mk).1.2.1.toNat) := by unfold conM; rw [if_neg hw]
                    refine ⟨_, rfl, .inl ⟨rfl, _, SqL.of hpr16⟩, _, rfl, _, rfl, by show (1 : Nat) ≤ _; omega, fun pq npq => ?_⟩
                    have t17 := Same.new (o := .lst [.ref p]) npq
                    have hpq : upd H16 pq (.lst [.ref p]) pq = some (.lst [.ref p]) := upd_same
                    have T17 := T16.trans t17
                    have ht17 := t17 _ _ ht16
                    have hp17 := t17 _ _ hp
                    have hLD17 := hLD16.same t17
                    have hpr17 := t17 _ _ hpr16
                    have hpf17 := t17 _ _ hpf16
                    have hRW17 : RowsAt b x z pf pr _ S2 rv2 := paired_imp (fun r v h => h.same t17) hRW16
                    generalize upd H16 pq (.lst [.ref p]) = H17 at *
                    refine ⟨t, pq, tv, _, rfl, rfl, ht17, hpq, by show tv.length + 1 ≤ _; omega, fun pn npn => ?_⟩
                    have t18 := Same.new (o := .lst (tv ++ [.ref p])) npn
                    have hpn : upd H17 pn (.lst (tv ++ [.ref p])) pn = some (.lst (tv ++ [.ref p])) := upd_same
                    have T18 := T17.trans t18
                    have hp18 := t18 _ _ hp17
                    have hLD18 := hLD17.same t18
                    have hpr18 := t18 _ _ hpr17
                    have hpf18 := t18 _ _ hpf17
                    have hnr : pn ≠ pr := (ne_of_none hpr17 npn).symm
                    have hnf : pn ≠ pf := (ne_of_none hpf17 npn).symm
                    have hRW18 : RowsAt b x z pf pr _ S2 rv2 := paired_imp (fun r v h => h.same t18) hRW17
                    generalize upd H17 pn (.lst (tv ++ [.ref p])) = H18 at *
                    refine ⟨_, rfl, _, rfl, _, rfl, p, _, 1, _, rfl, rfl, SqT.of hp18, atI_nat (j := 1) rfl, _, _, rfl, rfl, by show (3 : Nat) ≤ _; omega, fun pw npw => ?_⟩
                    have eat : (i : Int) + (stepL b ds x i mk).1.2.1 = ((i + (stepL b ds x i mk).1.2.1.toNat : Nat) : Int) := by omega
                    have t19 := Same.new (o := .lst [.ref pn, .ref pu, .int ((i : Int) + (stepL b ds x i mk).1.2.1)]) npw
                    have hpw : upd H18 pw (.lst [.ref pn, .ref pu, .int ((i : Int) + (stepL b ds x i mk).1.2.1)]) pw = some (.lst [.ref pn, .ref pu, .int ((i + (stepL b ds x i mk).1.2.1.toNat : Nat) : Int)]) := by rw [upd_same, eat]
                    have T19 := T18.trans t19
                    have hpr19 := t19 _ _ hpr18
                    have hpn19 := t19 _ _ hpn
                    have hLD19 := hLD18.same t19
                    have hwr : pw ≠ pr := (ne_of_none hpr18 npw).symm
                    have hwf : pw ≠ pf := (ne_of_none hpf18 npw).symm
                    have hRW19 : RowsAt b x z pf pr _ S2 rv2 := paired_imp (fun r v h => h.same t19) hRW18
                    generalize upd H18 pw (.lst [.ref pn, .ref pu, .int ((i : Int) + (stepL b ds x i mk).1.2.1)]) = H19 at *
                    have row : RowAt b x z pf pr H19 ((stepL b ds x i mk).2, i + (stepL b ds x i mk).1.2.1.toNat) (.ref pw) := ⟨pw, pn, pu, tv ++ [.ref p], rfl, ⟨hwf, hwr⟩, ⟨hnf, hnr⟩, ⟨huf, hur⟩, hpw, hpn19, by rw [List.length_append]; show _ + 1 ≤ _; omega, hLD19, g1, g2, g5⟩
                    refine ⟨pr, rv2, _, rfl, rfl, hpr19, by omega, ?_⟩
                    refine ⟨S2 ++ [((stepL b ds x i mk).2, i + (stepL b ds x i mk).1.2.1.toNat)], rv2 ++ [.ref pw], _, _, _, rfl, fun b' o hn' e' => by rw [upd_ne hn']; exact T19 _ _ (sx14 _ _ hn' e'), upd_same, paired_snoc (paired_imp (fun r v h => h.updL hpr19 (.inr rfl)) hRW19) (row.updL hpr19 (.inr rfl)), ?_, ?_, ?_, hst2.push ?_⟩
                    · rw [sumC_snoc, htk, List.sum_append, hcm, hsc]
                      simp
                      omega
                    · rw [sumM_snoc]
                      have : 11 ^ (x.length - (i + (stepL b ds x i mk).1.2.1.toNat)) ≤ 11 ^ (x.length - i - 1) := Nat.pow_le_pow_right (by decide) (by omega)
                      rw [Nat.add_mul, Nat.one_mul]
                      dsimp only
                      omega
                    · rw [List.length_append]; show _ + 1 ≤ _; omega
                    · show S2.length ≤ 10 * (i + (stepL b ds x i mk).1.2.1.toNat)
                      omega
                  · have hw : (stepL b ds x i mk).1.2.2.1 = Str.ofString "cut" := by
                      by_cases e : (stepL b ds x i mk).1.2.2.1 = Str.ofString "cut"
                      · exact e
                      · exact absurd (by rw [decide_eq_false (fun h => e (by injection h))]; rfl) gg
                    have hcm : conM b x ds i mk = 0 := by unfold conM; rw [if_pos hw]
                    refine ⟨S2, rv2, _, _, _, rfl, fun b' o hn' e' => T16 _ _ (sx14 _ _ hn' e'), hpr16, hRW16, ?_, ?_, by omega, hst2⟩
                    · rw [htk, List.sum_append, hcm, hsc]
                      simp
                    · rw [Nat.add_mul]
                      omega
                · rintro σ H14 ⟨S2, rv2, v10, v11, v12, rfl, sx14, hpr14, hRW14, hsc, hsm, hsl, hst2⟩
                  rw [List.length_map] at hsc hsm
                  rw [List.take_length, hcon] at hsc
                  have hpl := pow_lt hlt hml
                  refine ⟨sumM x S2, by omega, S2, rv2, fv, _, _, _, _, _, _, _, _, rfl, fun b' o e' => sx14 _ _ (ne_of_none e' npr0) (s13 _ _ e'), hpr14, hRW14, sx14 _ _ hrf.symm hpf13, by omega, hf2, hst2, rfl⟩
        · have : ¬ fv.length < 2 := fun h => g2 (decide_eq_true (by omega))
          omega
      · have hrv : rv = [] := by
          cases rv with
          | nil => rfl
          | cons _ _ => simp at g
        have hS0 : S = [] := List.eq_nil_of_length_eq_zero (by rw [hSl, hrv]; rfl)
        rw [hS0] at hsum
        have : sumC b x [] = 0 := rfl
        omega
    · rintro σ H3 Q1 Q2 hq ⟨v1, e1, h1, h2⟩
      refine ⟨v1, e1, h1, fun p np => ?_⟩
      obtain ⟨p1, p2, xs, e2, e3, e4, e5, c1, e6, h⟩ := h2 p np
      refine ⟨p1, p2, xs, e2, e3, e4, e5, c1, e6, ?_⟩
      dsimp only at h ⊢
      by_cases c : c1 = true
      · rw [if_pos c] at h ⊢
        obtain ⟨v2, e7, p3, ys, e8, h9, v3, e10, i1, i2, e11, e12, c2, e13, h⟩ := h
        exact ⟨v2, e7, p3, ys, e8, h9, v3, e10, i1, i2, e11, e12, c2, e13, hq _ _ h⟩
      · rw [if_neg c] at h ⊢
        exact hq _ _ h
end
end T1
namespace T1
open PySem L2
inductive FreeT (b : Bk) (x : Str) (z : Addr) (H : Hp) : List V → Nat → Prop where
  | none (h : cn b x [] 0 = 0) : FreeT b x z H [.str "none"] 0
  | one {pt : Addr} {ws : List V} {ss : List Stp} (h : cn b x [] 0 = 1) (hz : pt ≠ z) (hp : H pt = some (.lst ws)) (r : Reps z H ws (ss.map stD)) (k : Wk b x [] 0 ss) : FreeT b x z H [.str "one", .ref pt] 1
  | two {pt pu : Addr} {ws us : List V} {ss ts : List Stp} (h : 2 ≤ cn b x [] 0) (hz : pt ≠ z) (hp : H pt = some (.lst ws)) (r : Reps z H ws (ss.map stD)) (k : Wk b x [] 0 ss) (hz2 : pu ≠ z) (hp2 : H pu = some (.lst us)) (r2 : Reps z H us (ts.map stD)) (k2 : Wk b x [] 0 ts) (ne : ss ≠ ts) : FreeT b x z H [.str "two", .ref pt, .ref pu] 2
theorem wr_head (b : Bk) {x : Str} (hb : ∀ t ∈ b, TgOk b.length t) (hp : 0 < cn b x [] 0) {N p : Nat} (h : (wrF b x none N).ts.head? = some p) : ∀ n, WOk b x (wrF b x (some p) n) ∧ (some (wrF b x (some p) n).at_ = some p → 1 < (hop b x (wrF b x (some p) n).ds (wrF b x (some p) n).at_).length) := by
  obtain ⟨j, hj, _, hjp, hpx, hl⟩ := first_turn h
  intro n
  obtain ⟨h1, h2⟩ := wrF_some hb hp hjp hpx hl n
  refine ⟨h1, fun e => ?_⟩
  injection e with e
  have hnj : n ≤ j := by
    rcases Nat.lt_or_ge j n with g | g
    · have := h2 g; omega
    · exact g
  have sw := same_way hb hp hjp hpx n hnj
  rcases Nat.lt_or_ge n j with g | g
  · have hm := at_mono hb hp g (by rw [← sw, e]; exact hpx)
    rw [← sw, e, hjp] at hm
    omega
  · have en : n = j := by omega
    rw [e, sw, en]
    exact hl
inductive spFree : List V → Hp → VK → XK → Prop where
  | mk {vs : List V} {H : Hp} {Q : VK} {E : XK} (z v b x : _) (c1 : vs = [v, .str x]) (c2 : Bag z H) (c3 : Rep z H v (bkD b)) (c4 : BkOk b) (c9 : x.length ≤ 20000)
    (q : ∀ p ts n H', Same H H' → H p = none → H' p = some (.tup ts) → FreeT b x z H' ts n → Q (.ref p) H') : spFree vs H Q E
section
variable {P : Program} {w : World} {K : PySem.W.Frag} {mg : Str → Option Value} {base : Heap}
theorem scFree : FnScope ["book", "text", "ends", "told", "turns", "other", "more"] ["book", "text"] (defScope sFreeReadings) := ⟨rfl, rfl, rfl, by decide +kernel, rfl, by decide +kernel, by decide +kernel⟩
set_option maxHeartbeats 0 in
theorem ok_free {f f1 f2 f3 : Addr} {fd fd1 fd2 fd3 : FuncData} (F : Fun K "free_readings" "free_readings" sFreeReadings f fd)
    (k1 : PySem.W.keepIn K (.ref f1) = true) (b1 : Binds K fd1 ["book", "text"] []) (m1 : mg "all_ends" = some (.ref f1)) (G1 : FnOk P w K mg base CX0 5 f1 fd1 ["book", "text"] (spAllEnds P w K))
    (k2 : PySem.W.keepIn K (.ref f2) = true) (b2 : Binds K fd2 ["place", "doors", "ends"] []) (m2 : mg "can_be_whole" = some (.ref f2)) (G2 : FnOk P w K mg base CX0 1 f2 fd2 ["place", "doors", "ends"] (spCan P w K))
    (k3 : PySem.W.keepIn K (.ref f3) = true) (b3 : Binds K fd3 ["book", "text", "ends", "turn"] []) (m3 : mg "whole_reading" = some (.ref f3)) (G3 : FnOk P w K mg base CX0 4 f3 fd3 ["book", "text", "ends", "turn"] (spWhole P w K)) : FnOk P w K mg base CX0 6 f fd ["book", "text"] spFree := by
  refine F.ok scFree (fun vs H Q E h => ?_) (fun cdv A outer s H vs Q E hr h => ?_)
  · obtain ⟨z, v, b, x, rfl, _⟩ := h
    rfl
  · obtain ⟨z, v, b, x, rfl, hB, R0, hok, hx, k⟩ := h
    have nd := scFree.nd
    refine ⟨_, pss_cons (ps_set (i := 2) nd rfl (Or.inl rfl) (pe_call G1 hr rfl m1 k1 b1 .nil pass0 (pa_cons (pv 0) (pa_cons (pv 1) pa_nil))))
      (pss_cons (ps_if (pt_not (pt_val (pe_call G2 (hr.mono (by decide)) rfl m2 k2 b2 .nil pass0 (pa_cons pe_int (pa_cons (pe_lst pa_nil) (pa_cons (pv 2) pa_nil)))))) (pss_one (ps_ret (pe_tup (pa_cons pe_str pa_nil)))) pss_nil)
      (pss_cons (ps_asg (pe_call G3 (hr.mono (by decide)) rfl m3 k3 b3 .nil pass0 (pa_cons (pv 0) (pa_cons (pv 1) (pa_cons (pv 2) (pa_cons pe_non pa_nil))))) (pg_tup rfl (pgs_cons (pg_name (i := 3) nd rfl (Or.inl rfl)) (pgs_cons (pg_name (i := 4) nd rfl (Or.inl rfl)) pgs_nil))))
      (pss_cons (ps_if (pt_not (pt_truth (pv 4) (fun _ => rfl))) (pss_one (ps_ret (pe_tup (pa_cons pe_str (pa_cons (pv 3) pa_nil))))) pss_nil)
      (pss_cons (ps_asg (pe_call G3 (hr.mono (by decide)) rfl m3 k3 b3 .nil pass0 (pa_cons (pv 0) (pa_cons (pv 1) (pa_cons (pv 2) (pa_cons (pe_ix ix_list (pv 4) pe_int (fun _ _ => rfl)) pa_nil))))) (pg_tup rfl (pgs_cons (pg_name (i := 5) nd rfl (Or.inl rfl)) (pgs_cons (pg_name (i := 6) nd rfl (Or.inl rfl)) pgs_nil))))
      (pss_one (ps_ret (pe_tup (pa_cons pe_str (pa_cons (pv 3) (pa_cons (pv 5) pa_nil)))))))))), ?_⟩
    dsimp only [cxOf, Cx.nox, Cx.wish]
    have big := big1000
    have bigS := sizeLine_eq
    obtain ⟨hb1, hb6, htok, hbB⟩ := id hok
    have bk0 : LdBk b [] := fun d hd => nomatch hd
    refine seq_hide fun U hU => ?_
    refine ⟨_, rfl, _, rfl, z, v, b, x, rfl, hB, R0, hok, hx, fun ed rs kvs H1 s1 RO hE => hU _ _ (seq_hide fun U hU => ?_)⟩
    refine ⟨Nat.zero_le _, fun pd npd => ⟨_, rfl, ?_⟩⟩
    have t2 := Same.new (o := .lst []) npd
    have s2 := s1.trans t2
    have hpd : upd H1 pd (.lst []) pd = some (.lst []) := upd_same
    generalize upd H1 pd (.lst []) = H2 at *
    refine ⟨z, b, x, [], rs, 0, pd, ed, kvs, rfl, hok, RO, ⟨[], hpd, .nil⟩, bk0, Nat.zero_le _, hx, Nat.zero_le _, hE.same t2, fun H3 t3 => ⟨_, rfl, ?_⟩⟩
    have s3 := s2.trans t3
    have E3 := hE.same (t2.trans t3)
    refine ite2 (fun g => ?_) (fun g => hU _ _ (seq_hide fun U hU => ?_))
    · have g : cn b x [] 0 = 0 := by
        have : ¬ 0 < cn b x [] 0 := by simpa using g
        omega
      refine ⟨by show (1 : Nat) ≤ _; omega, fun p np => ?_⟩
      exact k p _ 0 _ (s3.trans (Same.new np)) (s3.free np) upd_same (.none g)
    · have hp0 : 0 < cn b x [] 0 := by
        have : ¬ ¬ 0 < cn b x [] 0 := by simpa using g
        omega
      clear g
      refine ⟨_, rfl, _, rfl, _, rfl, z, v, b, x, rs, none, ed, kvs, rfl, hB.same s3, R0.mono s3.x, hok, RO, hx, E3, hp0, fun n => ⟨wrF_none htok hp0 n, fun e => nomatch e⟩, fun N p pt pn ws H4 hat t4 np hp npt hptz hpt RS hpn => ?_⟩
      have s4 := s3.trans t4
      obtain ⟨hds, hwk⟩ := w_end (wrF_none htok hp0 N) hat
      have wok := wrF_none htok hp0 N
      refine ⟨p, _, rfl, SqT.of hp, rfl, _, _, rfl, _, _, rfl, rfl, hU _ _ (seq_hide fun U hU => ?_)⟩
      refine ⟨_, rfl, _, .inl ⟨_, SqL.of hpn, rfl⟩, ite2 (fun g => ?_) (fun g => hU _ _ ?_)⟩
      · have g : (wrF b x none N).ts = [] := by
          cases e : (wrF b x none N).ts with
          | nil => rfl
          | cons a r => rw [e] at g; simp at g
        refine ⟨_, rfl, by show (2 : Nat) ≤ _; omega, fun p np => ?_⟩
        have t5 := Same.new (o := .tup [.str "one", .ref pt]) np
        refine k p _ 1 _ (s4.trans t5) (s4.free np) upd_same (.one ?_ hptz (t5 _ _ hpt) (RS.mono t5.x) hwk)
        rw [wok.one g, hds, hat, cn_end]
        rfl
      · obtain ⟨a, r, ets⟩ : ∃ a r, (wrF b x none N).ts = a :: r := by
          cases e : (wrF b x none N).ts with
          | nil => rw [e] at g; simp at g
          | cons a r => exact ⟨a, r, rfl⟩
        have hhd : (wrF b x none N).ts.head? = some a := by rw [ets]; rfl
        have E4 := E3.same t4
        have hpn' := hpn
        rw [ets] at hpn'
        refine seq_hide fun U hU => ?_
        refine ⟨_, rfl, _, rfl, _, rfl, _, rfl, pn, _, 0, _, rfl, rfl, SqL.of hpn', atI_nat (j := 0) rfl, z, v, b, x, rs, some a, ed, kvs, rfl, hB.same s4, R0.mono s4.x, hok, RO, hx, E4, hp0, wr_head b htok hp0 hhd, fun N2 p2 pt2 pn2 ws2 H5 hat2 t5 np2 hp2 npt2 hptz2 hpt2 RS2 hpn2 => ?_⟩
        refine ⟨p2, _, rfl, SqT.of hp2, rfl, _, _, rfl, _, _, rfl, rfl, hU _ _ ?_⟩
        have s5 := s4.trans t5
        refine ⟨_, rfl, _, rfl, by show (3 : Nat) ≤ _; omega, fun p np => ?_⟩
        have t6 := Same.new (o := .tup [.str "two", .ref pt, .ref pt2]) np
        exact k p _ 2 _ (s5.trans t6) (s5.free np) upd_same (.two (wok.two (by rw [ets]; exact (fun e => nomatch e))) hptz ((t5.trans t6) _ _ hpt) (RS.mono (t5.trans t6).x) hwk hptz2 (t6 _ _ hpt2) (RS2.mono t6.x) (w_end (wr_head b htok hp0 hhd N2).1 hat2).2 (ways_ne hok hp0 hhd hat2))
end
end T1
namespace T1
open PySem L2
def IsF (b : Bk) (x : Str) (z : Addr) (H : Hp) (v : V) : Prop := ∃ pt ws ss, v = .ref pt ∧ pt ≠ z ∧ H pt = some (.lst ws) ∧ Reps z H ws (ss.map stD) ∧ Wk b x [] 0 ss
theorem IsF.same {b : Bk} {x : Str} {z : Addr} {H H' : Hp} {v : V} (h : IsF b x z H v) (s : Same H H') : IsF b x z H' v := by
  obtain ⟨pt, ws, ss, e, h1, h2, h3, h4⟩ := h
  exact ⟨pt, ws, ss, e, h1, s _ _ h2, h3.mono s.x, h4⟩
theorem cmps_sts (k : Nat) : ∀ ss ts : List Stp, Cmps (k + 1) (ss.map stD) (ts.map stD)
  | [], _ => .nilL _ _
  | _ :: _, [] => .nilR _ _
  | s :: ss, t :: ts => .cons (.tup (.cons (.int _ _ _) (.cons (.int _ _ _) (.cons (.str _ _ _) (.cons (.int _ _ _) (.cons (.int _ _ _) (.nilL _ _))))))) (cmps_sts k ss ts)
theorem stD_inj {s t : Stp} (h : stD s = stD t) : s = t := by
  obtain ⟨a, b, c, d, e⟩ := s
  obtain ⟨a', b', c', d', e'⟩ := t
  unfold stD at h
  injection h with h
  simp only [List.cons.injEq, D.int.injEq, D.str.injEq, and_true] at h
  obtain ⟨h1, h2, h3, h4, h5⟩ := h
  rw [h1, h2, h3, h4, h5]
theorem sts_ne {ss ts : List Stp} (h : ss ≠ ts) : eqDs (ss.map stD) (ts.map stD) = false := by
  cases e : eqDs (ss.map stD) (ts.map stD) with
  | false => rfl
  | true => exact absurd (mapI (fun a b e => stD_inj e) (eqDs_eq e)) h
abbrev wordsF : List V := [.str (Str.ofString "none"), .str (Str.ofString "one"), .str (Str.ofString "two")]
theorem free_parts {b : Bk} {x : Str} {z : Addr} {H : Hp} {ts : List V} {n : Nat} (h : FreeT b x z H ts n) : ∃ wd items, ts = .str wd :: items ∧ items.length = n ∧ n < 3 ∧ (∀ v, wordsF[n]? = some v → eqV v (.str wd) = true) ∧ (∀ m v, m < n → wordsF[m]? = some v → eqV v (.str wd) = false) ∧ (∀ v ∈ items, IsF b x z H v) ∧ min (cn b x [] 0) 2 = n ∧ (decide (V.str wd = V.str (Str.ofString "two")) = decide (n = 2)) ∧ (n = 2 → ∃ (pt pu : Addr) (ws us : List V) (ss ts' : List Stp), items = [.ref pt, .ref pu] ∧ pt ≠ z ∧ H pt = some (.lst ws) ∧ Reps z H ws (ss.map stD) ∧ pu ≠ z ∧ H pu = some (.lst us) ∧ Reps z H us (ts'.map stD) ∧ ss ≠ ts') := by
  cases h with
  | none h =>
    refine ⟨_, [], rfl, rfl, by decide, ?_, fun m v hm => absurd hm (by omega), fun v hv => (nomatch hv), by rw [h]; rfl, by decide +kernel, fun e => (by cases e)⟩
    intro v hv; injection hv with hv; rw [← hv]; decide +kernel
  | one h hz hp r k =>
    refine ⟨_, [_], rfl, rfl, by decide, ?_, ?_, fun v hv => ?_, by rw [h]; rfl, by decide +kernel, fun e => (by cases e)⟩
    · intro v hv; injection hv with hv; rw [← hv]; decide +kernel
    · intro m v hm hv
      have : m = 0 := by omega
      subst this
      injection hv with hv; rw [← hv]; decide +kernel
    · rw [List.mem_singleton.mp hv]
      exact ⟨_, _, _, rfl, hz, hp, r, k⟩
  | two h hz hp r k hz2 hp2 r2 k2 ne =>
    refine ⟨_, [_, _], rfl, rfl, by decide, ?_, ?_, fun v hv => ?_, by omega, by decide +kernel, fun _ => ⟨_, _, _, _, _, _, rfl, hz, hp, r, hz2, hp2, r2, ne⟩⟩
    · intro v hv; injection hv with hv; rw [← hv]; decide +kernel
    · intro m v hm hv
      have : m = 0 ∨ m = 1 := by omega
      rcases this with rfl | rfl
      · injection hv with hv; rw [← hv]; decide +kernel
      · injection hv with hv; rw [← hv]; decide +kernel
    · rcases List.mem_cons.mp hv with rfl | hv
      · exact ⟨_, _, _, rfl, hz, hp, r, k⟩
      · rw [List.mem_singleton.mp hv]
        exact ⟨_, _, _, rfl, hz2, hp2, r2, k2⟩
theorem flat_nil : ∀ n, flatN (fun _ => ((none : Option V)).toList) n = []
  | 0 => rfl
  | n + 1 => by
    show flatN (fun _ => ((none : Option V)).toList) n ++ [] = []
    rw [flat_nil n]
    rfl
inductive spRight12 : List V → Hp → VK → XK → Prop where
  | mk {vs : List V} {H : Hp} {Q : VK} {E : XK} (z v b x : _) (c1 : vs = [v, .str x]) (c2 : Bag z H) (c3 : Rep z H v (bkD b)) (c4 : BkOk b) (c9 : x.length ≤ 20000)
    (q : ∀ H', Same H H' → Q (.bl true) H') : spRight12 vs H Q E
section
variable {P : Program} {w : World} {K : PySem.W.Frag} {mg : Str → Option Value} {base : Heap}
theorem scRight12 : FnScope ["book", "text", "told"] ["book", "text"] (defScope lRight) := ⟨rfl, rfl, rfl, by decide +kernel, rfl, by decide +kernel, by decide +kernel⟩
theorem ndOBT : (["one", "book", "text"] : List Str).Nodup := by decide +kernel
set_option maxHeartbeats 0 in
theorem ok_right12 {f f1 f2 f3 : Addr} {fd fd1 fd2 fd3 : FuncData} (F : Fun K "_law_right" "_law_right" lRight f fd) (T : TxtB mg)
    (k1 : PySem.W.keepIn K (.ref f1) = true) (b1 : Binds K fd1 ["book", "text"] []) (m1 : mg "free_readings" = some (.ref f1)) (G1 : FnOk P w K mg base CX0 6 f1 fd1 ["book", "text"] spFree)
    (k2 : PySem.W.keepIn K (.ref f2) = true) (b2 : Binds K fd2 ["book", "text", "told"] []) (m2 : mg "_law_is_free" = some (.ref f2)) (G2 : FnOk P w K mg base CX0 6 f2 fd2 ["book", "text", "told"] spIsFree)
    (k3 : PySem.W.keepIn K (.ref f3) = true) (b3 : Binds K fd3 ["book", "text", "most"] []) (m3 : mg "_law_all_free" = some (.ref f3)) (G3 : FnOk P w K mg base CX0 2 f3 fd3 ["book", "text", "most"] spAllFree) : FnOk P w K mg base CX0 7 f fd ["book", "text"] spRight12 := by
  refine F.ok scRight12 (fun vs H Q E h => ?_) (fun cdv A outer s H vs Q E hr h => ?_)
  · obtain ⟨z, v, b, x, rfl, _⟩ := h
    rfl
  · obtain ⟨z, v, b, x, rfl, hB, R0, hok, hx, q⟩ := h
    have nd := scRight12.nd
    have hr5 : Room 5 _ := hr.mono (by decide)
    refine ⟨_, pss_cons (ps_set (i := 2) nd rfl (Or.inl rfl) (pe_call G1 (hr.mono (by decide)) rfl m1 k1 b1 .nil pass0 (pa_cons (pv 0) (pa_cons (pv 1) pa_nil))))
      (pss_cons (ps_if (PW.pt (pw_or (pt_not (pt_val (pe_isi T.isinst T.tuple b_tuple (pv 2)))) (pw_or (pt_cmpR (op_eq_nilT hr.units0) (pv 2) (pe_tup pa_nil) (nomark _)) (pw_or1 (pt_cmpR op_ne (pe_callB call_len_seq (by rfl) T.len b_len (pa_cons (pv 2) pa_nil)) (pe_op op_add pe_int (pe_bm PySem.F.plainAttrs_list PySem.F.slot_list_index PySem.F.type_list_index mt_index (pe_lst (pa_K pe_str (pa_K pe_str (pa_K pe_str pa_nil)))) (pa_cons (pe_ix ix_tup (pv 2) pe_int (fun _ _ => rfl)) pa_nil))) (nomark _)))))) (pss_one (ps_ret pe_bl)) pss_nil)
      (pss_cons (ps_if (PW.pt (pw_or (pt_cmpR (op_ne_nil hr.units0) (pe_comp1 (N' := ["one", "book", "text"]) (js := [none, some 0, some 1]) rfl rfl (blk_of (defScope lRight) (by decide +kernel)) ⟨rfl, Or.inr (Or.inl rfl), rfl, rfl, Or.inr (Or.inl rfl), rfl, trivial⟩ (pi_tup (pe_slice sl_tup (pv 2) (po_some pe_int) po_none)) (fun cl s H fp => pg_name (i := 0) ndOBT rfl (Or.inl rfl))
          (fun cl s H fp => pts_one (pt_not (pt_val (pe_call G2 (hr.mono (by decide)) rfl m2 k2 b2 .nil pass0 (pa_cons (pv 1) (pa_cons (pv 2) (pa_cons (pv 0) pa_nil))))))) (fun cl s H fp => pv 0)) (pe_lst pa_nil) (nomark _))
        (pw_or1 (PW.pt (pw_and (pt_cmpR op_eq (pe_ix ix_tup (pv 2) pe_int (fun _ _ => rfl)) pe_str (nomark _)) (pw_and1 (pt_cmpR (op_eqL hr5) (pe_ix ix_tup (pv 2) pe_int (fun _ _ => rfl)) (pe_ix ix_tup (pv 2) pe_int (fun _ _ => rfl)) (nomark _)))))))) (pss_one (ps_ret pe_bl)) pss_nil)
      (pss_one (ps_ret (pe_cmpR op_eq (pe_callB call_len_seq (by rfl) T.len b_len (pa_cons (pe_call G3 (hr.mono (by decide)) rfl m3 k3 b3 .nil pass0 (pa_cons (pv 0) (pa_cons (pv 1) (pa_cons pe_int pa_nil)))) pa_nil)) (pe_op op_sub (pe_callB call_len_seq (by rfl) T.len b_len (pa_cons (pv 2) pa_nil)) pe_int) (nomark _)))))), ?_⟩
    dsimp only [cxOf, Cx.nox, Cx.wish]
    have big := big1000
    have bigS := sizeLine_eq
    refine seq_hide fun U hU => ?_
    refine ⟨_, rfl, _, rfl, z, v, b, x, rfl, hB, R0, hok, hx, fun pT ts n H1 s1 npT hpT hF => hU _ _ (seq_hide fun U hU => ?_)⟩
    obtain ⟨wd, items, rfl, hil, hn3, hx1, hx2, hall, hmin, hw2, htwo⟩ := free_parts hF
    refine ⟨_, rfl, _, _, _, _, rfl, TyOf.tup hpT, kit_tup K (.tup []), _, rfl, iteF ?_⟩
    refine ⟨_, rfl, Nat.zero_le _, fun pe npe => ?_⟩
    have t2 := Same.new (o := .tup []) npe
    have hpT2 := t2 _ _ hpT
    refine ⟨pT, pe, _, rfl, rfl, hpT2, upd_same, _, rfl, iteF ?_⟩
    generalize upd H1 pe (.tup []) = H2 at *
    refine ⟨_, rfl, pT, _, rfl, .inr (SqT.of hpT2), by show (3 : Nat) ≤ _; omega, fun pl npl => ?_⟩
    have t3 := Same.new (o := .lst wordsF) npl
    have hpl : upd H2 pl (.lst wordsF) pl = some (.lst wordsF) := upd_same
    have hpT3 := t3 _ _ hpT2
    have T3 := t2.trans t3
    have s3 := s1.trans T3
    refine ⟨.inl ⟨rfl, _, SqL.of hpl⟩, _, rfl, pT, _, 0, _, rfl, rfl, SqT.of hpT3, atI_nat (j := 0) rfl, pl, wordsF, .str wd, n, rfl, rfl, hpl, rfl, rfl, hn3, by omega, hx1, hx2, _, _, rfl, rfl, rfl, _, rfl, ?_⟩
    generalize upd H2 pl (.lst wordsF) = H3 at *
    have elen : (!decide (V.int (((V.str wd :: items).length : Nat) : Int) = V.int (1 + (n : Int)))) = false := by
      rw [List.length_cons, hil, decide_eq_true (by congr 1; omega)]
      rfl
    refine ite2 (fun g => absurd (elen.symm.trans g) (by decide)) (fun _ => hU _ _ (seq_hide fun U hU => ?_))
    have hall3 : ∀ v ∈ items, IsF b x z H3 v := fun v hv => (hall v hv).same T3
    refine ⟨_, rfl, _, rfl, pT, _, rfl, SqT.of hpT3, fun g => absurd g.1 ?_, fun pu npu => ?_⟩
    · rw [show (1 : Int) = ((1 : Nat) : Int) from rfl, HT.sIx_nat]
      show ¬ min 1 (items.length + 1) = 0
      omega
    · have ec : cutV (V.str wd :: items) (some 1) none = items := by
        unfold cutV
        rw [show (1 : Int) = ((1 : Nat) : Int) from rfl, HT.sIx_nat, HT.sIx_none, Nat.min_eq_left (by rw [List.length_cons]; omega)]
        exact List.take_of_length_le (by rw [List.length_drop]; exact Nat.le_refl _)
      rw [ec]
      have t4 := Same.new (o := .tup items) npu
      have hpu : upd H3 pu (.tup items) pu = some (.tup items) := upd_same
      have s4 := s3.trans t4
      have hpT4 := t4 _ _ hpT3
      generalize upd H3 pu (.tup items) = H4 at *
      refine ⟨pu, rfl, ⟨_, SqT.of hpu⟩, fun pC npC => ?_⟩
      have huC : pu ≠ pC := ne_of_none hpu npC
      refine loop_new (fun _ => none) (fun σ => ∃ u, σ = [u, some v, some (.str x)]) ⟨none, rfl⟩ npC (by omega) (itok_tup (xs := items) (by rw [upd_ne huC]; exact hpu) huC) (fun j σ H5 C hj ⟨u, hu⟩ t5 hC => ?_) (fun σ H5 t5 hC5 => ?_)
      · subst hu
        have hjm : items.getD j .non ∈ items := getD_mem .non hj
        obtain ⟨pt, ws, ss, e, hz, hpt, RS, hk⟩ := (hall3 _ hjm).same (t4.trans t5)
        rw [e]
        have s5 := s4.trans t5
        dsimp only [gName]
        refine ⟨_, rfl, _, rfl, _, rfl, z, v, b, x, pt, ws, ss, rfl, hB.same s5, R0.mono s5.x, hok, hx, hz, hpt, RS, hk, fun H6 t6 => ⟨_, rfl, ?_⟩⟩
        exact iteF (hC _ _ ⟨_, rfl⟩ t6)
      · rw [flat_nil] at hC5
        have s5 := s4.trans t5
        have hpT5 := t5 _ _ hpT4
        refine ⟨Nat.zero_le _, fun pe2 npe2 => ?_⟩
        have t6 := Same.new (o := .lst []) npe2
        refine ⟨pC, pe2, [], rfl, rfl, t6 _ _ hC5, upd_same, _, rfl, iteF ?_⟩
        have hpT6 := t6 _ _ hpT5
        have s6 := s5.trans t6
        have T6 := (T3.trans (t4.trans t5)).trans t6
        generalize upd H5 pe2 (.lst []) = H6 at *
        refine ⟨_, rfl, pT, _, 0, _, rfl, rfl, SqT.of hpT6, atI_nat (j := 0) rfl, rfl, _, rfl, ?_⟩
        have fin : U [some v, some (.str x), some (.ref pT)] H6 := by
          refine hU _ _ ?_
          refine ⟨_, rfl, _, rfl, z, v, b, x, rfl, hB.same s6, R0.mono s6.x, hok, hx, fun p fv H8 t8 hp hl => ⟨p, _, rfl, .inl (SqL.of hp), _, rfl, pT, _, rfl, .inr (SqT.of (t8 _ _ hpT6)), _, _, rfl, rfl, rfl, ?_⟩⟩
          have e : decide (V.int ((fv.length : Nat) : Int) = V.int ((((V.str wd :: items).length : Nat) : Int) - 1)) = true := decide_eq_true (by congr 1; rw [hl, hmin, List.length_cons, hil]; omega)
          show Q (.bl (decide (V.int ((fv.length : Nat) : Int) = V.int ((((V.str wd :: items).length : Nat) : Int) - 1)))) H8
          rw [e]
          exact q H8 (s6.trans t8)
        rw [hw2]
        by_cases h2 : n = 2
        · rw [decide_eq_true h2]
          obtain ⟨pt, pu2, ws, us, ss, ts', rfl, hz, hp, r, hz2, hp2, r2, ne⟩ := htwo h2
          refine iteT ?_
          refine ⟨_, rfl, pT, _, 1, _, rfl, rfl, SqT.of hpT6, atI_nat (j := 1) rfl, _, rfl, pT, _, 2, _, rfl, rfl, SqT.of hpT6, atI_nat (j := 2) rfl, z, z, _, _, .lst (T6 _ _ hp) hz (r.mono T6.x), .lst (T6 _ _ hp2) hz2 (r2.mono T6.x), cmps_sts 3 _ _, _, rfl, ?_⟩
          rw [sts_ne ne]
          exact iteF fin
        · rw [decide_eq_false h2]
          exact iteF (iteF fin)
end
end T1
namespace T1
open PySem L2
theorem sq_same12 {K : PySem.W.Frag} {H H' : Hp} {a : Addr} {xs : List V} (s : Same H H') (h : SqL K H a xs) : SqL K H' a xs := by
  rcases h with (h | ⟨o, h⟩) | h
  · exact .inl (.inl (s _ _ h))
  · exact .inl (.inr ⟨o, s _ _ h⟩)
  · exact .inr h
inductive spLaw12 (K : PySem.W.Frag) : List V → Hp → VK → XK → Prop where
  | mk {vs : List V} {H : Hp} {Q : VK} {E : XK} (a : _) (ns : List Int) (c1 : vs = [.ref a]) (c2 : SqL K H a (ns.map V.int)) (q : ∀ H', Q (.bl true) H') : spLaw12 K vs H Q E
section
variable {P : Program} {w : World} {K : PySem.W.Frag} {mg : Str → Option Value} {base : Heap}
theorem scLaw12 : FnScope ["script", "k", "bag", "book", "turn", "text"] ["script"] (defScope lLaw) := ⟨rfl, rfl, rfl, by decide +kernel, rfl, by decide +kernel, by decide +kernel⟩
set_option maxHeartbeats 0 in
theorem ok_law12 {f f1 f2 f3 f4 : Addr} {fd fd1 fd2 fd3 fd4 : FuncData} (F : Fun K "law" "law" lLaw f fd) (T : TxtB mg) (T2 : Txt2 mg)
    (k1 : PySem.W.keepIn K (.ref f1) = true) (b1 : Binds K fd1 ["script", "k"] []) (m1 : mg "_law_bag" = some (.ref f1)) (G1 : FnOk P w K mg base CX0 1 f1 fd1 ["script", "k"] (spBag K))
    (k2 : PySem.W.keepIn K (.ref f2) = true) (b2 : Binds K fd2 ["bag"] []) (m2 : mg "_law_book" = some (.ref f2)) (G2 : FnOk P w K mg base CX0 3 f2 fd2 ["bag"] spBook)
    (k3 : PySem.W.keepIn K (.ref f3) = true) (b3 : Binds K fd3 ["bag", "book", "most"] []) (m3 : mg "_law_text" = some (.ref f3)) (G3 : FnOk P w K mg base CX0 2 f3 fd3 ["bag", "book", "most"] spText)
    (k4 : PySem.W.keepIn K (.ref f4) = true) (b4 : Binds K fd4 ["book", "text"] []) (m4 : mg "_law_right" = some (.ref f4)) (G4 : FnOk P w K mg base CX0 7 f4 fd4 ["book", "text"] spRight12) : FnOk P w K mg base CX0 8 f fd ["script"] (spLaw12 K) := by
  refine F.ok scLaw12 (fun vs H Q E h => ?_) (fun cdv A outer s H vs Q E hr h => ?_)
  · obtain ⟨a, ns, rfl, _⟩ := h
    rfl
  · obtain ⟨a, ns, rfl, hS, k⟩ := h
    have nd := scLaw12.nd
    have hr1 : Room 1 _ := hr.mono (by decide)
    have hr2 : Room 2 _ := hr.mono (by decide)
    have hr3 : Room 3 _ := hr.mono (by decide)
    have hr7 : Room 7 _ := hr.mono (by decide)
    refine ⟨_, pss_cons (ps_for PassesOwn.never rfl (pi_range1 rfl T.range (pa_B (pe_op op_add (pe_callB (call_min2 rfl) (by rfl) T2.min b_min (pa_cons (pe_callB call_len_seq (by rfl) T.len b_len (pa_cons (pv 0) pa_nil)) (pa_K pe_int pa_nil))) pe_int) pa_nil)) (pg_name (i := 1) nd rfl (Or.inl rfl))
        (pss_cons (ps_set (i := 2) nd rfl (Or.inl rfl) (pe_call G1 hr1 rfl m1 k1 b1 .nil pass0 (pa_cons (pv 0) (pa_cons (pv 1) pa_nil))))
        (pss_cons (ps_set (i := 3) nd rfl (Or.inl rfl) (pe_call G2 hr3 rfl m2 k2 b2 .nil pass0 (pa_cons (pv 2) pa_nil)))
        (pss_one (ps_for PassesOwn.never rfl (pi_range1 rfl T.range (pa_cons pe_int pa_nil)) (pg_name (i := 4) nd rfl (Or.inl rfl))
          (pss_cons (ps_set (i := 5) nd rfl (Or.inl rfl) (pe_slice sl_str (pe_call G3 hr2 rfl m3 k3 b3 .nil pass0 (pa_cons (pv 2) (pa_cons (pv 3) (pa_K pe_int pa_nil)))) po_none (po_some pe_int)))
          (pss_one (ps_if (pt_not (pt_val (pe_call G4 hr7 rfl m4 k4 b4 .nil pass0 (pa_cons (pv 3) (pa_cons (pv 5) pa_nil))))) (pss_one (ps_ret pe_bl)) pss_nil))))))))
      (pss_one (ps_ret pe_bl)), ?_⟩
    dsimp only [cxOf, Cx.nox, Cx.wish]
    have big2 : (100000 : Nat) ≤ sizeLine := by rw [sizeLine_eq]; decide
    have hmin : ∃ n : Nat, (if (12 : Int) < ((ns.map V.int).length : Int) then (12 : Int) else ((ns.map V.int).length : Int)) = (n : Int) ∧ n ≤ 12 := by
      by_cases h : (12 : Int) < ((ns.map V.int).length : Int)
      · exact ⟨12, by rw [if_pos h]; rfl, by decide⟩
      · exact ⟨(ns.map V.int).length, by rw [if_neg h], by omega⟩
    obtain ⟨n, en, hn⟩ := hmin
    refine seq_hide fun U hU => ?_
    refine ⟨_, rfl, a, _, rfl, .inl hS, _, _, rfl, _, _, rfl, rfl, (n : Int) + 2, ?_, by omega, by omega, ?_⟩
    · show [V.int ((if (12 : Int) < ((ns.map V.int).length : Int) then (12 : Int) else ((ns.map V.int).length : Int)) + 2)] = _
      rw [en]
    refine for_range (fun i σ H2 => ∃ u1 u2 u3 u4 u5, σ = [some (.ref a), u1, u2, u3, u4, u5] ∧ Same H H2) ⟨none, none, none, none, none, rfl, Same.refl _⟩ ?_ ?_
    · rintro i σ H0 hi ⟨u1, u2, u3, u4, u5, rfl, s0⟩
      have hi' : i < n + 2 := by omega
      refine ⟨_, rfl, _, rfl, a, ns, i, by simp, sq_same12 s0 hS, by omega, fun z H1 nz s1 hB1 => ?_⟩
      refine ⟨_, rfl, z, rfl, hB1, fun v b H2 A2 Rb okb => ?_⟩
      have up : ∀ H', Aft z H1 H' → Same H H' := fun H' A b' o e => A.1 b' o (fun g => by rw [g] at e; have := s0 _ _ e; rw [nz] at this; cases this) (s1 b' o (s0 b' o e))
      refine ⟨3, rfl, by decide, by decide, ?_⟩
      refine for_range (fun j σ H3 => ∃ w4 w5, σ = [some (.ref a), some (.int (0 + i)), some (.ref z), some v, w4, w5] ∧ Aft z H1 H3 ∧ Rep z H3 v (bkD b)) ⟨_, _, rfl, A2, Rb⟩ ?_ ?_
      · rintro j σ H3 hj ⟨w4, w5, rfl, A3, R3⟩
        refine ⟨_, rfl, _, rfl, z, v, b, 7, rfl, A3.2, R3, okb, by decide, by decide, fun x H4 A4 hx => ?_⟩
        have R4 := R3.mono A4.1
        have hcl := cutS_len x none (some 12)
        refine ⟨_, rfl, _, rfl, by omega, ?_⟩
        generalize cutS x none (some 12) = y at *
        refine ⟨_, rfl, _, rfl, z, v, b, y, rfl, A4.2, R4, okb, by omega, fun H5 t5 => ⟨_, rfl, iteF ?_⟩⟩
        exact ⟨_, _, rfl, (A3.trans A4).same t5, R4.mono t5.x⟩
      · rintro σ H3 ⟨w4, w5, rfl, A3, R3⟩
        exact ⟨_, _, _, _, _, rfl, up _ A3⟩
    · rintro σ H2 ⟨u1, u2, u3, u4, u5, rfl, s2⟩
      exact hU _ _ (k H2)
end
end T1
namespace T1
open PySem L2
def outB (K : PySem.W.Frag) (a : Addr) : Bool := match K.lookup a with
  | some o => (match o.cls with | .type n => n == "tuple" | _ => false) && (match o.data with
    | .seq its _ => (match its.toList with | [.int i _, .str x _] => i == 0 && x == Str.ofString "" | _ => false)
    | _ => false)
  | none => false
theorem txO_of {mg : Str → Option Value} {K : PySem.W.Frag} {aO : Addr} (h : outB K aO = true) (g : mg "OUTSIDE" = some (.ref aO)) : TxO mg K aO := by
  refine ⟨g, ?_⟩
  unfold outB at h
  cases e : K.lookup aO with
  | none => rw [e] at h; cases h
  | some o =>
    rw [e] at h
    dsimp only at h
    rw [Bool.and_eq_true] at h
    obtain ⟨h1, h2⟩ := h
    have hc : o.cls = .type "tuple" := by
      cases hk : o.cls with
      | type n =>
        rw [hk] at h1
        have h1 : (n == "tuple") = true := h1
        rw [eq_of_beq h1]
      | _ => rw [hk] at h1; cases h1
    cases hd : o.data with
    | seq its n =>
      rw [hd] at h2
      dsimp only at h2
      refine ⟨o, its, n, rfl, hc, hd, ?_⟩
      split at h2
      · rename_i i t1 x t2 hl
        rw [Bool.and_eq_true] at h2
        have e1 : i = 0 := eq_of_beq h2.1
        have e2 : x = Str.ofString "" := eq_of_beq h2.2
        subst e1 e2
        have hsz : its.size = 2 := by
          have := congrArg List.length hl
          simpa using this
        refine ⟨by rw [hsz, sizeLine_eq]; decide, ?_⟩
        rw [hl]
        exact .cons ⟨t1, rfl⟩ (.cons ⟨t2, rfl⟩ .nil)
      · cases h2
    | _ => rw [hd] at h2; cases h2
end T1
namespace L2
open PySem PySem.Spec PyProof.Rows
section
variable {P : Program} {w : World} {K : PySem.W.Frag} {mg : Str → Option Value} {base : Heap}
end
end L2
namespace T1
open PySem L2
section
variable {P : Program} {w : World} {K : PySem.W.Frag} {mg : Str → Option Value} {base : Heap}
end
end T1
namespace T1
open PySem L2
end T1
namespace L2
open PySem PySem.Spec PyProof.Rows
end L2
namespace T1
open PySem L2
structure FK (K : PySem.W.Frag) (n : Str) (st : Stmt) (f : Addr) (fd : FuncData) : Prop where
  a : PySem.W.nsIn K mainGlobals n = some (some (.ref f))
  F : Fun K n n st f fd
section
variable {K : PySem.W.Frag} {n q x : Str} {st : Stmt} {f C : Addr} {fd : FuncData} {oc kV doc pm cdv ct : Value} {od an : Option Addr} {osl : Array (Option Value)}
theorem fk (a : PySem.W.nsIn K mainGlobals n = some (some (.ref f))) (l : K.lookup f = some ⟨oc, od, .func (PySem.W.fnOf n n (defArgs st) (defBody st) (defScope st) .none kV doc pm an cdv ct), osl⟩) (c : PySem.W.codeIn K cdv n = true) (k : PySem.W.keepIn K (.ref f) = true) :
    FK K n st f (PySem.W.fnOf n n (defArgs st) (defBody st) (defScope st) .none kV doc pm an cdv ct) := ⟨a, fun_mk l c k⟩
theorem FK.m {h : Heap} {mg : Str → Option Value} (A : FK K n st f fd) (X : K.In h) (G : h.Ns mainGlobals mg) : mg n = some (.ref f) := PySem.W.mg_of X G A.a
theorem FK.law {h : Heap} {mg : Str → Option Value} (A : FK K n st f fd) (X : K.In h) (G : h.Ns mainGlobals mg) {g : Addr} (e : mg n = some (.ref g)) : g = f := by
  have := e.symm.trans (A.m X G)
  injection this with this
  injection this
abbrev fo (x q : Str) (st : Stmt) (kV doc pm : Value) (an : Option Addr) (cdv ct : Value) : FuncData := PySem.W.fnOf x q (defArgs st) (defBody st) (defScope st) .none kV doc pm an cdv ct
theorem bn1 {p : Str} (F : Fun K x q st f fd) (h : ∀ kV doc pm an cdv ct a, bindArgs (fo x q st kV doc pm an cdv ct) ⟨[a], []⟩ = pure [(p, a)]) : Binds K fd [p] [] :=
  F.binds fun _ _ _ _ _ _ us hl => bd1 (f := fun us => bindArgs _ ⟨us, []⟩) (g := fun us => pure (List.zip _ us)) (h _ _ _ _ _ _) us hl
theorem bn2 {p p2 : Str} (F : Fun K x q st f fd) (h : ∀ kV doc pm an cdv ct a b, bindArgs (fo x q st kV doc pm an cdv ct) ⟨[a, b], []⟩ = pure [(p, a), (p2, b)]) : Binds K fd [p, p2] [] :=
  F.binds fun _ _ _ _ _ _ us hl => bd2 (f := fun us => bindArgs _ ⟨us, []⟩) (g := fun us => pure (List.zip _ us)) (h _ _ _ _ _ _) us hl
theorem bn3 {p p2 p3 : Str} (F : Fun K x q st f fd) (h : ∀ kV doc pm an cdv ct a b c, bindArgs (fo x q st kV doc pm an cdv ct) ⟨[a, b, c], []⟩ = pure [(p, a), (p2, b), (p3, c)]) : Binds K fd [p, p2, p3] [] :=
  F.binds fun _ _ _ _ _ _ us hl => bd3 (f := fun us => bindArgs _ ⟨us, []⟩) (g := fun us => pure (List.zip _ us)) (h _ _ _ _ _ _) us hl
theorem bn4 {p p2 p3 p4 : Str} (F : Fun K x q st f fd) (h : ∀ kV doc pm an cdv ct a b c d, bindArgs (fo x q st kV doc pm an cdv ct) ⟨[a, b, c, d], []⟩ = pure [(p, a), (p2, b), (p3, c), (p4, d)]) : Binds K fd [p, p2, p3, p4] [] :=
  F.binds fun _ _ _ _ _ _ us hl => bd4 (f := fun us => bindArgs _ ⟨us, []⟩) (g := fun us => pure (List.zip _ us)) (h _ _ _ _ _ _) us hl
theorem bn5 {p p2 p3 p4 p5 : Str} (F : Fun K x q st f fd) (h : ∀ kV doc pm an cdv ct a b c d e, bindArgs (fo x q st kV doc pm an cdv ct) ⟨[a, b, c, d, e], []⟩ = pure [(p, a), (p2, b), (p3, c), (p4, d), (p5, e)]) : Binds K fd [p, p2, p3, p4, p5] [] :=
  F.binds fun _ _ _ _ _ _ us hl => bd5 (f := fun us => bindArgs _ ⟨us, []⟩) (g := fun us => pure (List.zip _ us)) (h _ _ _ _ _ _) us hl
theorem bnl (F : Fun K x q st f fd) (h : ∀ kV doc pm an cdv ct (s : Shared) (v : Value), BindsTo s (fo x q st kV doc pm an cdv ct) ⟨[v], []⟩ [("script", v)]) : ∀ (s : Shared) (v : Value), BindsTo s fd ⟨[v], []⟩ [("script", v)] := by
  obtain ⟨oc, od, kV, doc, pm, an, cdv, ct, osl, rfl, lk, hcd⟩ := F.ex
  exact h _ _ _ _ _ _
end
end T1
namespace T1
open PySem L2
/-! ### what the top has written, and the law's own head -/
set_option maxHeartbeats 0 in
theorem all_mk {l : PySem.W.OpenLaw} {w : World} {K : PySem.W.Frag} {h : Heap} {mg : Str → Option Value} {fa  f1 f2 f3 f4 f5 f6 f7 f8 f9 f10 f11 f12 f13 f14 f15 f16 f17 f18 f19 f20 f21 f22 f23 f24 f25 aO : Addr} {d1 d2 d3 d4 d5 d6 d7 d8 d9 d10 d11 d12 d13 d14 d15 d16 d17 d18 d19 d20 d21 d22 d23 d24 d25 : FuncData} (X : K.In h) (G : h.Ns mainGlobals mg) (hfa : mg "law" = some (.ref fa))
    (A1 : FK K "tongue_within" sWithin f1 d1)
    (A2 : FK K "possible_marks" sPoss f2 d2)
    (A3 : FK K "fitting_marks" sFitting f3 d3)
    (A4 : FK K "take_mark" sTakeM f4 d4)
    (A5 : FK K "read_plain" sPlainR f5 d5)
    (A6 : FK K "rooms_of" sRoomsOf f6 d6)
    (A7 : FK K "ends_from" sEndsFrom f7 d7)
    (A8 : FK K "all_ends" sAllEnds f8 d8)
    (A9 : FK K "can_be_whole" sCanBeWhole f9 d9)
    (A10 : FK K "is_hopeful" sIsHopeful f10 d10)
    (A11 : FK K "whole_reading" sWholeReading f11 d11)
    (A12 : FK K "free_readings" sFreeReadings f12 d12)
    (A13 : FK K "_law_bag" lBag f13 d13)
    (A14 : FK K "_law_take" lTake f14 d14)
    (A15 : FK K "_law_mark" lMk f15 d15)
    (A16 : FK K "_law_fits_book" lFits f16 d16)
    (A17 : FK K "_law_book" lBook f17 d17)
    (A18 : FK K "_law_marks" lMarks f18 d18)
    (A19 : FK K "_law_text" lText f19 d19)
    (A20 : FK K "_law_fitting" lFitting f20 d20)
    (A21 : FK K "_law_step" lStep f21 d21)
    (A22 : FK K "_law_is_free" lIsFree f22 d22)
    (A23 : FK K "_law_all_free" lAllFree f23 d23)
    (A24 : FK K "_law_right" lRight f24 d24)
    (A25 : FK K "law" lLaw f25 d25)
    (z1 : PySem.W.nsIn K mainGlobals "len" = some none)
    (z2 : PySem.W.nsIn K mainGlobals "ord" = some none)
    (z3 : PySem.W.nsIn K mainGlobals "all" = some none)
    (z4 : PySem.W.nsIn K mainGlobals "any" = some none)
    (z5 : PySem.W.nsIn K mainGlobals "isinstance" = some none)
    (z6 : PySem.W.nsIn K mainGlobals "str" = some none)
    (z7 : PySem.W.nsIn K mainGlobals "int" = some none)
    (z8 : PySem.W.nsIn K mainGlobals "bool" = some none)
    (z9 : PySem.W.nsIn K mainGlobals "tuple" = some none)
    (z10 : PySem.W.nsIn K mainGlobals "range" = some none)
    (z11 : PySem.W.nsIn K mainGlobals "sorted" = some none)
    (z12 : PySem.W.nsIn K mainGlobals "max" = some none)
    (z13 : PySem.W.nsIn K mainGlobals "list" = some none)
    (z14 : PySem.W.nsIn K mainGlobals "set" = some none)
    (z15 : PySem.W.nsIn K mainGlobals "min" = some none)
    (z16 : PySem.W.nsIn K mainGlobals "reversed" = some none)
    (aO1 : PySem.W.nsIn K mainGlobals "OUTSIDE" = some (some (.ref aO)))
    (hO : outB K aO = true) :
    ∃ fd : FuncData, (∀ (s : Shared) (v : Value), BindsTo s fd ⟨[v], []⟩ [("script", v)]) ∧ ∀ base : Heap, K.In base → base.Ns mainGlobals mg → FnOk l.prog w K mg base CX0 8 fa fd ["script"] (spLaw12 K) := by
  have e := A25.law X G hfa
  subst e
  have T : TxtB mg := ⟨PySem.W.mg_none_of X G z1, PySem.W.mg_none_of X G z2, PySem.W.mg_none_of X G z3, PySem.W.mg_none_of X G z4, PySem.W.mg_none_of X G z5, PySem.W.mg_none_of X G z6, PySem.W.mg_none_of X G z7, PySem.W.mg_none_of X G z8, PySem.W.mg_none_of X G z9, PySem.W.mg_none_of X G z10, PySem.W.mg_none_of X G z11, PySem.W.mg_none_of X G z12⟩
  have T2 : Txt2 mg := ⟨PySem.W.mg_none_of X G z13, PySem.W.mg_none_of X G z14, PySem.W.mg_none_of X G z15⟩
  have hrev := PySem.W.mg_none_of X G z16
  have b1 := bn1 (p := "doors") A1.F fun _ _ _ _ _ _ _ => rfl
  have b2 := bn2 (p := "book") (p2 := "doors") A2.F fun _ _ _ _ _ _ _ _ => rfl
  have b3 := bn4 (p := "book") (p2 := "text") (p3 := "place") (p4 := "doors") A3.F fun _ _ _ _ _ _ _ _ _ _ => rfl
  have b4 := bn4 (p := "mark") (p2 := "door") (p3 := "place") (p4 := "doors") A4.F fun _ _ _ _ _ _ _ _ _ _ => rfl
  have b5 := bn4 (p := "book") (p2 := "text") (p3 := "place") (p4 := "doors") A5.F fun _ _ _ _ _ _ _ _ _ _ => rfl
  have b6 := bn1 (p := "book") A6.F fun _ _ _ _ _ _ _ => rfl
  have b7 := bn5 (p := "book") (p2 := "text") (p3 := "place") (p4 := "room") (p5 := "ends") A7.F fun _ _ _ _ _ _ _ _ _ _ _ => rfl
  have b8 := bn2 (p := "book") (p2 := "text") A8.F fun _ _ _ _ _ _ _ _ => rfl
  have b9 := bn3 (p := "place") (p2 := "doors") (p3 := "ends") A9.F fun _ _ _ _ _ _ _ _ _ => rfl
  have b10 := bn5 (p := "mark") (p2 := "door") (p3 := "place") (p4 := "doors") (p5 := "ends") A10.F fun _ _ _ _ _ _ _ _ _ _ _ => rfl
  have b11 := bn4 (p := "book") (p2 := "text") (p3 := "ends") (p4 := "turn") A11.F fun _ _ _ _ _ _ _ _ _ _ => rfl
  have b12 := bn2 (p := "book") (p2 := "text") A12.F fun _ _ _ _ _ _ _ _ => rfl
  have b13 := bn2 (p := "script") (p2 := "k") A13.F fun _ _ _ _ _ _ _ _ => rfl
  have b14 := bn2 (p := "bag") (p2 := "many") A14.F fun _ _ _ _ _ _ _ _ => rfl
  have b15 := bn2 (p := "bag") (p2 := "signs") A15.F fun _ _ _ _ _ _ _ _ => rfl
  have b16 := bn1 (p := "book") A16.F fun _ _ _ _ _ _ _ => rfl
  have b17 := bn1 (p := "bag") A17.F fun _ _ _ _ _ _ _ => rfl
  have b18 := bn1 (p := "book") A18.F fun _ _ _ _ _ _ _ => rfl
  have b19 := bn3 (p := "bag") (p2 := "book") (p3 := "most") A19.F fun _ _ _ _ _ _ _ _ _ => rfl
  have b20 := bn4 (p := "book") (p2 := "doors") (p3 := "text") (p4 := "place") A20.F fun _ _ _ _ _ _ _ _ _ _ => rfl
  have b21 := bn5 (p := "book") (p2 := "doors") (p3 := "text") (p4 := "place") (p5 := "mark") A21.F fun _ _ _ _ _ _ _ _ _ _ _ => rfl
  have b22 := bn3 (p := "book") (p2 := "text") (p3 := "told") A22.F fun _ _ _ _ _ _ _ _ _ => rfl
  have b23 := bn3 (p := "book") (p2 := "text") (p3 := "most") A23.F fun _ _ _ _ _ _ _ _ _ => rfl
  have b24 := bn2 (p := "book") (p2 := "text") A24.F fun _ _ _ _ _ _ _ _ => rfl
  refine ⟨_, bnl A25.F fun _ _ _ _ _ _ s v => .of_eq rfl, fun base _ _ => ?_⟩
  have G1 : FnOk l.prog w K mg base CX0 1 f1 _ ["doors"] spWithin := ok_within A1.F 
  have G2 : FnOk l.prog w K mg base CX0 2 f2 _ ["book", "doors"] spPoss := ok_poss A2.F A1.F.kp b1 (A1.m X G) G1
  have G3 : FnOk l.prog w K mg base CX0 3 f3 _ ["book", "text", "place", "doors"] spFitP := ok_fitP A3.F A2.F.kp b2 (A2.m X G) G2
  have G4 : FnOk l.prog w K mg base CX0 2 f4 _ ["mark", "door", "place", "doors"] spTakeM := ok_takeM A4.F T A1.F.kp b1 (A1.m X G) G1
  have G5 : FnOk l.prog w K mg base CX0 2 f5 _ ["book", "text", "place", "doors"] spPlainR := ok_plainR A5.F T A1.F.kp b1 (A1.m X G) G1
  have TO := txO_of hO (PySem.W.mg_of X G aO1)
  have G6 : FnOk l.prog w K mg base CX0 1 f6 _ ["book"] (spRooms K) := ok_rooms A6.F TO 
  have G7 : FnOk l.prog w K mg base CX0 4 f7 _ ["book", "text", "place", "room", "ends"] (spEnds l.prog w K) := ok_ends A7.F TO T A3.F.kp b3 (A3.m X G) G3 A5.F.kp b5 (A5.m X G) G5
  have G8 : FnOk l.prog w K mg base CX0 5 f8 _ ["book", "text"] (spAllEnds l.prog w K) := ok_allEnds A8.F T hrev A6.F.kp b6 (A6.m X G) G6 A7.F.kp b7 (A7.m X G) G7
  have G9 : FnOk l.prog w K mg base CX0 1 f9 _ ["place", "doors", "ends"] (spCan l.prog w K) := ok_can A9.F TO T T2 hrev 
  have G10 : FnOk l.prog w K mg base CX0 3 f10 _ ["mark", "door", "place", "doors", "ends"] (spHop l.prog w K) := ok_hop A10.F T T2 A4.F.kp b4 (A4.m X G) G4 A9.F.kp b9 (A9.m X G) G9
  have G11 : FnOk l.prog w K mg base CX0 4 f11 _ ["book", "text", "ends", "turn"] (spWhole l.prog w K) := ok_whole A11.F T A3.F.kp b3 (A3.m X G) G3 A5.F.kp b5 (A5.m X G) G5 A4.F.kp b4 (A4.m X G) G4 A10.F.kp b10 (A10.m X G) G10
  have G12 : FnOk l.prog w K mg base CX0 6 f12 _ ["book", "text"] spFree := ok_free A12.F A8.F.kp b8 (A8.m X G) G8 A9.F.kp b9 (A9.m X G) G9 A11.F.kp b11 (A11.m X G) G11
  have G13 : FnOk l.prog w K mg base CX0 1 f13 _ ["script", "k"] (spBag K) := ok_bag A13.F T 
  have G14 : FnOk l.prog w K mg base CX0 1 f14 _ ["bag", "many"] spTake := ok_take A14.F 
  have G15 : FnOk l.prog w K mg base CX0 2 f15 _ ["bag", "signs"] spMk := ok_mk A15.F T A14.F.kp b14 (A14.m X G) G14
  have G16 : FnOk l.prog w K mg base CX0 1 f16 _ ["book"] spFits := ok_fits A16.F T T2 
  have G17 : FnOk l.prog w K mg base CX0 3 f17 _ ["bag"] spBook := ok_lbook A17.F T T2 A14.F.kp b14 (A14.m X G) G14 A15.F.kp b15 (A15.m X G) G15 A16.F.kp b16 (A16.m X G) G16
  have G18 : FnOk l.prog w K mg base CX0 1 f18 _ ["book"] spLMarks := ok_lmarks A18.F 
  have G19 : FnOk l.prog w K mg base CX0 2 f19 _ ["bag", "book", "most"] spText := ok_text A19.F T A14.F.kp b14 (A14.m X G) G14 A18.F.kp b18 (A18.m X G) G18
  have G20 : FnOk l.prog w K mg base CX0 1 f20 _ ["book", "doors", "text", "place"] spFitting := ok_fitting A20.F T 
  have G21 : FnOk l.prog w K mg base CX0 1 f21 _ ["book", "doors", "text", "place", "mark"] spStep := ok_lstep A21.F T 
  have G22 : FnOk l.prog w K mg base CX0 6 f22 _ ["book", "text", "told"] spIsFree := ok_isFree A22.F T T2 A20.F.kp b20 (A20.m X G) G20 A21.F.kp b21 (A21.m X G) G21
  have G23 : FnOk l.prog w K mg base CX0 2 f23 _ ["book", "text", "most"] spAllFree := ok_allFree A23.F T T2 A20.F.kp b20 (A20.m X G) G20 A21.F.kp b21 (A21.m X G) G21
  have G24 : FnOk l.prog w K mg base CX0 7 f24 _ ["book", "text"] spRight12 := ok_right12 A24.F T A12.F.kp b12 (A12.m X G) G12 A22.F.kp b22 (A22.m X G) G22 A23.F.kp b23 (A23.m X G) G23
  exact ok_law12 A25.F T T2 A13.F.kp b13 (A13.m X G) G13 A17.F.kp b17 (A17.m X G) G17 A19.F.kp b19 (A19.m X G) G19 A24.F.kp b24 (A24.m X G) G24
theorem walk {l : PySem.W.OpenLaw} {q : Program} {loose : List Str} {XP : (Str → Option Value) → Heap → Prop} {YP : World → Heap → Prop} {d : DefRec} {K : Params → PySem.W.Frag} (hn : l.most = some 63) (hdf : d.params.defaults = [])
    (hY : ∀ (w : World) (h : Heap), YP w h → (K w.params).In h)
    (F : ∀ (w : World) (mg : Str → Option Value) (fa : Addr) (h : Heap), (K w.params).In h → h.Ns mainGlobals mg → mg d.name = some (.ref fa) →
      ∃ fd : FuncData, (∀ (s : Shared) (u : Value), BindsTo s fd ⟨[u], []⟩ [("script", u)]) ∧ ∀ base : Heap, (K w.params).In base → base.Ns mainGlobals mg → FnOk l.prog w (K w.params) mg base CX0 8 fa fd ["script"] (spLaw12 (K w.params))) :
    PySem.W.WalkO q loose XP YP l.row.toRowW d [] (fun f vs => PySem.call f vs) :=
  L2.walk_of (n := 63) (k := 8) (x := "script") (CX := fun _ => CX0) (sp := fun w => spLaw12 (K w.params)) hn (by decide) hdf ⟨rfl, by decide, by decide⟩ hY F (fun _ _ a ns hl _ hS => ⟨a, ns, rfl, hS, fun _ => rfl⟩) fun _ _ _ _ _ z => z
end T1
open PySem PySem.W PyProof.Rows
local macro_rules | `(tactic| walk_at "own def") => `(tactic| (refine' T1.fk ?k1 ?k2 ?k3 ?k4; (case k1 => k_is); (case k2 => k_is); (case k3 => k_is); (case k4 => k_is)))
local macro_rules | `(tactic| walk_at "own method") => `(tactic| (refine' T1.mkm ?k1 ?k2 ?k3 ?k4 ?k5; (case k1 => k_is); (case k2 => k_is); (case k3 => k_is); (case k4 => k_is); (case k5 => k_is)))
def PySem.W.Fast.tw5966565382965179416 : Nat := 0
def PySem.W.Fast.tw3262600082786808669 : Nat := 0
def PySem.W.Fast.tw8774127647945930363 : Nat := 0
def PySem.W.Fast.tw3818190767585931765 : Nat := 0
def PySem.W.Fast.tw2023703002933248735 : Nat := 0
def PySem.W.Fast.tw2208103774411097747 : Nat := 0
def PySem.W.Fast.tw10928406251835325437 : Nat := 0
def PySem.W.Fast.tw11050320142316392444 : Nat := 0
def PySem.W.Fast.tw10941328718043904884 : Nat := 0
def PySem.W.Fast.tw10850453848261185839 : Nat := 0
def PySem.W.Fast.tw14663814807280271081 : Nat := 0
def PySem.W.Fast.tw17136957277060880134 : Nat := 0
def PySem.W.Fast.tw12433262037006722305 : Nat := 0
def PySem.W.Fast.tw17412910533179082372 : Nat := 0
def PySem.W.Fast.tw13789284812474570954 : Nat := 0
def PySem.W.Fast.tw5423688379672161589 : Nat := 0
def PySem.W.Fast.tw16239080888576748624 : Nat := 0
def PySem.W.Fast.tw14657173872418071173 : Nat := 0
def PySem.W.Fast.tw375021871321107250 : Nat := 0
def PySem.W.Fast.tw15014794249709924184 : Nat := 0
def PySem.W.Fast.tw17492391285583658635 : Nat := 0
def PySem.W.Fast.tw18378698411622280805 : Nat := 0
def PySem.W.Fast.tw3030967481163407933 : Nat := 0
def PySem.W.Fast.tw1105828713438606860 : Nat := 0
def PySem.W.Fast.tw8919012222996496130 : Nat := 0
def PySem.W.Fast.tw14664615390085231111 : Nat := 0
def PySem.W.Fast.tw4259124986445336775 : Nat := 0
def PySem.W.Fast.tw16627410184679298157 : Nat := 0
def PySem.W.Fast.tw6970085899095018527 : Nat := 0
def PySem.W.Fast.tw7167491825776928294 : Nat := 0
def PySem.W.Fast.tw1217259578879608266 : Nat := 0
def PySem.W.Fast.tw5180385437493012119 : Nat := 0
def PySem.W.Fast.tw8681053776578608465 : Nat := 0
def PySem.W.Fast.tw17397079980589376008 : Nat := 0
def PySem.W.Fast.tw5041711404218730199 : Nat := 0
def PySem.W.Fast.tw1370104556550407482 : Nat := 0
def PySem.W.Fast.tw7629661085659062100 : Nat := 0
def PySem.W.Fast.tw15965322827152181506 : Nat := 0
def PySem.W.Fast.tw11419555521087074490 : Nat := 0
def PySem.W.Fast.tw13496602818693672866 : Nat := 0
def PySem.W.Fast.tw4649727979700422315 : Nat := 0
def PySem.W.Fast.tw7025222606439216621 : Nat := 0
def PySem.W.Fast.tw12030347123703875237 : Nat := 0
def PySem.W.Fast.tw4697576313569158731 : Nat := 0
def PySem.W.Fast.tw14237564207348585252 : Nat := 0
def PySem.W.Fast.tw967686284250038840 : Nat := 0
def PySem.W.Fast.tw14365683467009370967 : Nat := 0
def PySem.W.Fast.tw6540860711634186235 : Nat := 0
def PySem.W.Fast.tw8805103140543446491 : Nat := 0
def PySem.W.Fast.tw4148565471738870336 : Nat := 0
def PySem.W.Fast.tw1835277987333877583 : Nat := 0
def PySem.W.Fast.tw1725214250318170606 : Nat := 0
def PySem.W.Fast.tw8176763066210363749 : Nat := 0
def PySem.W.Fast.tw677294013433243728 : Nat := 0
def PySem.W.Fast.tw9469858010522560629 : Nat := 0
def PySem.W.Fast.tw2966854623447608197 : Nat := 0
def PySem.W.Fast.tw15275621168337575334 : Nat := 0
def PySem.W.Fast.tw10002420824174465841 : Nat := 0
def PySem.W.Fast.tw2836232919560402860 : Nat := 0
def PySem.W.Fast.tw13884725092128142143 : Nat := 0
def PySem.W.Fast.tw11246699391268822575 : Nat := 0
def PySem.W.Fast.tw7945571643158954657 : Nat := 0
def PySem.W.Fast.tw355580207078087221 : Nat := 0
set_option maxRecDepth 100000 in
set_option maxHeartbeats 0 in
theorem PySem.Challenge.cw_tonguenest_k12_whole_free_readings_holds : PySem.Challenge.rw_tonguenest_k12_whole_free_readings.Holds := by
  w_on; o_law; k_head; (case hw => w_witness2)
  k_fill
  refine T1.walk (l := PySem.Challenge.rw_tonguenest_k12_whole_free_readings) rfl rfl (fun w h Y => PySem.W.kIn_of Y) ?F
  case F =>
    intro w mg fa h KX G hmg
    refine' T1.all_mk KX G hmg ?A1 ?A2 ?A3 ?A4 ?A5 ?A6 ?A7 ?A8 ?A9 ?A10 ?A11 ?A12 ?A13 ?A14 ?A15 ?A16 ?A17 ?A18 ?A19 ?A20 ?A21 ?A22 ?A23 ?A24 ?A25 ?z1 ?z2 ?z3 ?z4 ?z5 ?z6 ?z7 ?z8 ?z9 ?z10 ?z11 ?z12 ?z13 ?z14 ?z15 ?z16 ?aO1 ?hO
    (case A1 => walk_at "own def")
    (case A2 => walk_at "own def")
    (case A3 => walk_at "own def")
    (case A4 => walk_at "own def")
    (case A5 => walk_at "own def")
    (case A6 => walk_at "own def")
    (case A7 => walk_at "own def")
    (case A8 => walk_at "own def")
    (case A9 => walk_at "own def")
    (case A10 => walk_at "own def")
    (case A11 => walk_at "own def")
    (case A12 => walk_at "own def")
    (case A13 => walk_at "own def")
    (case A14 => walk_at "own def")
    (case A15 => walk_at "own def")
    (case A16 => walk_at "own def")
    (case A17 => walk_at "own def")
    (case A18 => walk_at "own def")
    (case A19 => walk_at "own def")
    (case A20 => walk_at "own def")
    (case A21 => walk_at "own def")
    (case A22 => walk_at "own def")
    (case A23 => walk_at "own def")
    (case A24 => walk_at "own def")
    (case A25 => walk_at "own def")
    (case z1 => k_is)
    (case z2 => k_is)
    (case z3 => k_is)
    (case z4 => k_is)
    (case z5 => k_is)
    (case z6 => k_is)
    (case z7 => k_is)
    (case z8 => k_is)
    (case z9 => k_is)
    (case z10 => k_is)
    (case z11 => k_is)
    (case z12 => k_is)
    (case z13 => k_is)
    (case z14 => k_is)
    (case z15 => k_is)
    (case z16 => k_is)
    (case aO1 => k_is)
    (case hO => kernel_rfl)
