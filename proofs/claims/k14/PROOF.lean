import PyProof.Rows.All
import Wide.All
import OpenK.AllK
import Wide.FinOn
import Lean
import PyProof.EqAt
import PyProof.EqKinds
import PyProof.TupleCall
import PyProof.NeKinds
import KE.KSortKey
import KE.KMinKey
import PyProof.StrBlockG
import PyProof.StrBlockI
import KE.KRevSl
import PyProof.MeetsStr
import KE.KLam
import KE.KNestM
import PyProof.Rows.ZipForRows
import PyProof.Rows.FactsT2
import PyProof.StrOps2
import PyProof.Rows.SumAny
import KE.KRevIter
import KE.KDictIter
import KE.KDictSum
import PyProof.WalkInts
import PyProof.Rows.MinMaxN
import PyProof.ListRange
import PyProof.StrLawsIn
import PyProof.ListMulRoad
import PySem.Challenge.RW_tonguenest_k14_whole_put_in_by_fewest_es
set_option Elab.async false
set_option linter.all false
set_option maxRecDepth 100000
-- CHANGE: your row's module here, as the last of these rows
namespace L2
open PySem PySem.Spec PyProof.Rows
abbrev Key := Sum Int Str
def keyIs : Key → Value → Bool
  | .inl k, v => Value.isInt k v
  | .inr x, v => Value.isStrOf x v
def keyH (w : World) : Key → Int
  | .inl k => hashInt k
  | .inr x => hashStr w x
theorem keyIs_shape : ∀ {k : Key} {v : Value}, keyIs k v = true → (∃ i t, k = Sum.inl i ∧ v = Value.int i t) ∨ (∃ x t, k = Sum.inr x ∧ v = Value.str x t)
  | .inl i, v, h => by
    obtain ⟨t, e⟩ := Value.isInt_shape (k := i) (v := v) h
    exact .inl ⟨i, t, rfl, e⟩
  | .inr x, v, h => by
    obtain ⟨t, e⟩ := Value.isStrOf_shape (x := x) (v := v) h
    exact .inr ⟨x, t, rfl, e⟩
theorem keyIs_int (i : Int) (t : Tok) : keyIs (.inl i) (.int i t) = true := by simp [keyIs, Value.isInt]
theorem keyIs_str (x : Str) (t : Tok) : keyIs (.inr x) (.str x t) = true := by simp [keyIs, Value.isStrOf]
theorem key_ll (a b : Int) : decide ((Sum.inl a : Key) = Sum.inl b) = (a == b) := by
  by_cases e : a = b
  · subst e; simp
  · have h : ¬ (Sum.inl a : Key) = Sum.inl b := fun q => e (Sum.inl.inj q)
    rw [decide_eq_false h]
    exact (beq_eq_false_iff_ne.mpr e).symm
theorem key_rr (a b : Str) : decide ((Sum.inr a : Key) = Sum.inr b) = decide (a = b) := by
  by_cases e : a = b
  · subst e; simp
  · have h : ¬ (Sum.inr a : Key) = Sum.inr b := fun q => e (Sum.inr.inj q)
    rw [decide_eq_false h, decide_eq_false e]
theorem key_lr (a : Int) (b : Str) : decide ((Sum.inl a : Key) = Sum.inr b) = false := decide_eq_false (fun q => nomatch q)
theorem key_rl (a : Str) (b : Int) : decide ((Sum.inr a : Key) = Sum.inl b) = false := decide_eq_false (fun q => nomatch q)
def mixKind (prog : Program) (w : World) : PySem.KeyKind prog w Key where
  is := keyIs
  hash := keyH w
  inj := fun v a b ha hb => by
    rcases keyIs_shape ha with ⟨i, t, rfl, rfl⟩ | ⟨x, t, rfl, rfl⟩
    · rcases keyIs_shape hb with ⟨j, u, rfl, e⟩ | ⟨y, u, rfl, e⟩
      · injection e with e1 _; rw [e1]
      · exact nomatch e
    · rcases keyIs_shape hb with ⟨j, u, rfl, e⟩ | ⟨y, u, rfl, e⟩
      · exact nomatch e
      · injection e with e1 _; rw [e1]
  byValue := fun k v h => by
    rcases keyIs_shape h with ⟨i, t, rfl, rfl⟩ | ⟨x, t, rfl, rfl⟩ <;> rfl
  pyHash := fun hv h => by
    rcases keyIs_shape hv with ⟨i, t, rfl, rfl⟩ | ⟨x, t, rfl, rfl⟩
    · exact wpAny_pyHash_int h
    · exact wpAny_pyHash_str h
  eqBool := fun hu hv h => by
    rcases keyIs_shape hu with ⟨i, t, rfl, rfl⟩ | ⟨x, t, rfl, rfl⟩
    · rcases keyIs_shape hv with ⟨j, u, rfl, rfl⟩ | ⟨y, u, rfl, rfl⟩
      · rw [key_ll] at h; exact wpAny_eqBool_int h
      · rw [key_lr] at h; exact SeqAt.EqAt.int_str i t y u _ _ _ _ h
    · rcases keyIs_shape hv with ⟨j, u, rfl, rfl⟩ | ⟨y, u, rfl, rfl⟩
      · rw [key_rl] at h; exact SeqAt.EqAt.str_int x t j u _ _ _ _ h
      · rw [key_rr] at h; exact wpAny_eqBool_str h
  «strs» := fun k x t v h => by
    rcases keyIs_shape h with ⟨i, u, rfl, e⟩ | ⟨y, u, rfl, e⟩
    · exact nomatch e
    · injection e with e1 _
      subst e1
      cases v <;> rfl
theorem mixKind_int (prog : Program) (w : World) (i : Int) (t : Tok) : (mixKind prog w).is (.inl i) (.int i t) = true := keyIs_int i t
theorem mixKind_str (prog : Program) (w : World) (x : Str) (t : Tok) : (mixKind prog w).is (.inr x) (.str x t) = true := keyIs_str x t
end L2
namespace L2
open PySem PySem.Spec PyProof.Rows
inductive V where
  | non | bl (b : Bool) | int (i : Int) | str (x : Str) | byt (b : Array UInt8) | flt (b : UInt64) | ref (a : Addr) | ty (n : String)
  deriving DecidableEq
def RelV : V → Value → Prop
  | .non, u => u = Value.none
  | .bl b, u => u = Value.bool b
  | .int i, u => ∃ t, u = Value.int i t
  | .str x, u => ∃ t, u = Value.str x t
  | .byt b, u => ∃ t, u = Value.bytes b t
  | .flt b, u => ∃ t, u = Value.float b t
  | .ref a, u => u = Value.ref a
  | .ty n, u => u = Value.type n
abbrev Vals : List V → List Value → Prop := Paired RelV
theorem Vals.length {xs : List V} {us : List Value} (r : Vals xs us) : xs.length = us.length := Paired.length r
theorem Vals.get : ∀ {xs : List V} {us : List Value} {i : Nat} {x : V}, Vals xs us → xs[i]? = some x → ∃ u, us[i]? = some u ∧ RelV x u
  | _, _, _, _, .nil, e => by simp at e
  | _, _, 0, _, .cons r _, e => by simp at e; subst e; exact ⟨_, rfl, r⟩
  | _, _, i + 1, x, .cons _ t, e => by
    obtain ⟨u, h1, h2⟩ := Vals.get (i := i) (x := x) t (by simpa using e)
    exact ⟨u, by simpa using h1, h2⟩
theorem Vals.set {x : V} {u : Value} (r : RelV x u) : ∀ {xs : List V} {us : List Value} (i : Nat), Vals xs us → Vals (xs.set i x) (us.set i u)
  | _, _, _, .nil => .nil
  | _, _, 0, .cons _ t => .cons r t
  | _, _, i + 1, .cons q t => .cons q (Vals.set r i t)
theorem Vals.append : ∀ {xs ys : List V} {us ws : List Value}, Vals xs us → Vals ys ws → Vals (xs ++ ys) (us ++ ws)
  | _, _, _, _, .nil, s => s
  | _, _, _, _, .cons r t, s => .cons r (Vals.append t s)
theorem Vals.take : ∀ {xs : List V} {us : List Value} (n : Nat), Vals xs us → Vals (xs.take n) (us.take n)
  | _, _, 0, _ => .nil
  | _, _, _ + 1, .nil => .nil
  | _, _, n + 1, .cons r t => .cons r (Vals.take n t)
theorem Vals.drop : ∀ {xs : List V} {us : List Value} (n : Nat), Vals xs us → Vals (xs.drop n) (us.drop n)
  | _, _, 0, r => r
  | _, _, _ + 1, .nil => .nil
  | _, _, n + 1, .cons _ t => Vals.drop n t
def RelO : Option V → Option Value → Prop
  | some v, some u => RelV v u
  | none, none => True
  | _, _ => False
def KV {κ : Type} : List (κ × V) → List (κ × Value) → Prop := Paired fun (p : κ × V) (q : κ × Value) => p.1 = q.1 ∧ RelV p.2 q.2
def kV : Key → V
  | .inl i => .int i
  | .inr x => .str x
inductive HO where
  /-- a list -/
  | lst (xs : List V)
  /-- a tuple (never changes) -/
  | tup (xs : List V)
  /-- a dict whose keys are ints and texts; one whose keys are tuples of ints and texts (the empty one is both) -/
  | dK (kvs : List (Key × V)) | dT (kvs : List (List Key × V))
  /-- a set of ints: its members, its size -/
  | set (S : Int → Bool) (n : Nat)
  /-- an instance of the class at C, its dict at dx, its attributes -/
  | ins (C dx : Addr) (fs : List (Str × V))
  /-- the dict of the instance at x -/
  | own (x : Addr)
  /-- the dict of an exception -/
  | xd (fs : List (Str × V))
  /-- a bound method, f of x -/
  | met (f x : Addr)
  /-- a range object lo, lo + 1, .. below hi -/
  | rng (lo hi : Int)
  /-- a thing that is known to the object (the script; a dict while a loop walks it): read, never written while it is so -/
  | frz (o : Obj) (u : HO)
  /-- a code object's table -/
  | tbl (ps : Array Value)
  /-- any other thing, by what is true of its one object (a def of one's own: SetO a S n := HO.ext fun h => ..) -/
  | ext (φ : Heap → Prop)
abbrev Hp := Addr → Option HO
def upd (H : Hp) (a : Addr) (o : HO) : Hp := fun b => if b = a then some o else H b
theorem upd_same {H : Hp} {a : Addr} {o : HO} : upd H a o a = some o := by unfold upd; rw [if_pos rfl]
theorem upd_ne {H : Hp} {a b : Addr} {o : HO} (h : b ≠ a) : upd H a o b = H b := by unfold upd; rw [if_neg h]
theorem ne_of {H : Hp} {a b : Addr} {o u : HO} (h : H a = some o) (h' : H b = some u) (d : o ≠ u) : a ≠ b := by
  intro e; subst e; rw [h] at h'; exact d (Option.some.inj h')
theorem ne_of_none {H : Hp} {a b : Addr} {o : HO} (h : H a = some o) (h' : H b = none) : a ≠ b := by
  intro e; subst e; rw [h] at h'; cases h'
section
variable (P : Program) (w : World)
def ObjOk (H : Hp) (h : Heap) (a : Addr) : HO → Prop
  | .lst xs => xs.length ≤ sizeLine ∧ ∃ (its : List Value) (n : Nat), Vals xs its ∧ h.get? a = some { cls := .type "list", data := .seq its.toArray n }
  | .tup xs => xs.length ≤ sizeLine ∧ ∃ its : List Value, Vals xs its ∧ IsTup h a its.toArray
  | .dK kvs => kvs.length ≤ sizeLine ∧ (a == sysModules) = false ∧ ∃ vs, KV kvs vs ∧ h.DictOf (mixKind P w) a vs
  | .dT kvs => kvs.length ≤ sizeLine ∧ (a == sysModules) = false ∧ ∃ xs : List (List Key × Addr × Value),
      Paired (fun (p : List Key × V) (q : List Key × Addr × Value) => p.1 = q.1 ∧ H q.2.1 = some (.tup (p.1.map kV)) ∧ RelV p.2 q.2.2) kvs xs ∧
      ∃ o es ep, h.get? a = some o ∧ o.ExactDict ∧ o.data = .dict es ep ∧ es.toList = xs.map (entryOfKey (tupleKind (mixKind P w))) ∧ (xs.map (·.1)).Nodup
  | .set S n => h.SetOf (intKind P w) a S n
  | .ins C dx fs => H dx = some (.own a) ∧ fs.length ≤ 1000 ∧ dx ≠ a ∧ h.get? a = some (PySem.W.instObj C dx) ∧
      ∃ mA, h.Ns1 dx mA ∧ (∀ f, RelO (fs.lookup f) (mA f)) ∧ PySem.Within mA (fs.map (·.1))
  | .own _ => ∃ o, h.get? a = some o
  | .xd fs => ∃ mA, h.Ns1 a mA ∧ ∀ f, RelO (fs.lookup f) (mA f)
  | .rng lo hi => ∃ t u v, h.get? a = some { cls := .type "range", data := .fields #[.int lo t, .int hi u, .int 1 v] }
  | .frz o u => h.get? a = some o ∧ ObjOk H h a u
  | .tbl ps => h.get? a = some { cls := .none, data := .fields ps }
  | .met f x => h.get? a = some (PySem.W.methodObj (.ref f) (.ref x))
  | .ext φ => φ h ∧ (∃ o, h.get? a = some o) ∧ ∀ h1 h2 : Heap, φ h1 → (∀ o, h1.get? a = some o → h2.get? a = some o) → φ h2
def HOk (H : Hp) (h : Heap) : Prop := ∀ a o, H a = some o → ObjOk P w H h a o
end
section
variable {P : Program} {w : World} {H H' : Hp} {h h' : Heap} {a : Addr} {o : HO}
theorem ObjOk.lt (x : ObjOk P w H h a o) : a < h.objs.size := by
  cases o with
  | lst xs => obtain ⟨_, _, _, _, e⟩ := x; exact Heap.lt_size e
  | tup xs => obtain ⟨_, _, _, p⟩ := x; exact p.lt
  | dK kvs => obtain ⟨_, _, _, _, o, _, _, e, _⟩ := x; exact Heap.lt_size e
  | dT kvs => obtain ⟨_, _, _, _, o, _, _, e, _⟩ := x; exact Heap.lt_size e
  | set S n => obtain ⟨o, _, _, _, e, _⟩ := x; exact Heap.lt_size e
  | ins C dx fs => obtain ⟨_, _, _, e, _⟩ := x; exact Heap.lt_size e
  | own y => obtain ⟨_, e⟩ := x; exact Heap.lt_size e
  | xd fs => obtain ⟨_, ⟨_, _, _, e, _⟩, _⟩ := x; exact Heap.lt_size e
  | rng lo hi => obtain ⟨_, _, _, e⟩ := x; exact Heap.lt_size e
  | frz ob u => obtain ⟨e, _⟩ := x; exact Heap.lt_size e
  | tbl ps => exact Heap.lt_size (show h.get? a = some _ from x)
  | met f y => exact Heap.lt_size (show h.get? a = some _ from x)
  | ext φ => obtain ⟨_, ⟨_, e⟩, _⟩ := x; exact Heap.lt_size e
theorem Paired.mapP {α β : Type} {F G : α → β → Prop} : ∀ {l₁ : List α} {l₂ : List β}, Paired F l₁ l₂ → (∀ a b, F a b → G a b) → Paired G l₁ l₂
  | _, _, .nil, _ => .nil
  | _, _, .cons r t, f => .cons (f _ _ r) (Paired.mapP t f)
theorem ObjOk.stay (x : ObjOk P w H h a o) (k : ∀ b u, (b = a ∨ H b = some (.own a)) → h.get? b = some u → h'.get? b = some u)
    (ho : ∀ b, H b = some (.own a) → H' b = some (.own a)) (ht : ∀ b xs, H b = some (.tup xs) → H' b = some (.tup xs)) : ObjOk P w H' h' a o := by
  induction o with
  | lst xs => obtain ⟨z, its, n, r, e⟩ := x; exact ⟨z, its, n, r, k _ _ (.inl rfl) e⟩
  | tup xs => obtain ⟨z, its, r, ob, e, c⟩ := x; exact ⟨z, its, r, ob, k _ _ (.inl rfl) e, c⟩
  | dK kvs => obtain ⟨z, y, vs, r, ob, es, ep, e, c⟩ := x; exact ⟨z, y, vs, r, ob, es, ep, k _ _ (.inl rfl) e, c⟩
  | dT kvs =>
    obtain ⟨z, y, xs, r, ob, es, ep, e, c⟩ := x
    exact ⟨z, y, xs, Paired.mapP r fun p q z => ⟨z.1, ht _ _ z.2.1, z.2.2⟩, ob, es, ep, k _ _ (.inl rfl) e, c⟩
  | set S n => obtain ⟨ob, es, ep, t, e, c⟩ := x; exact ⟨ob, es, ep, t, k _ _ (.inl rfl) e, c⟩
  | ins C dx fs =>
    obtain ⟨d, z, ne, e, mA, ⟨od, es, ep, e2, c⟩, r⟩ := x
    exact ⟨ho _ d, z, ne, k _ _ (.inl rfl) e, mA, ⟨od, es, ep, k _ _ (.inr d) e2, c⟩, r⟩
  | own y => obtain ⟨ob, e⟩ := x; exact ⟨ob, k _ _ (.inl rfl) e⟩
  | xd fs => obtain ⟨mA, ⟨od, es, ep, e, c⟩, r⟩ := x; exact ⟨mA, ⟨od, es, ep, k _ _ (.inl rfl) e, c⟩, r⟩
  | rng lo hi => obtain ⟨t, u, v, e⟩ := x; exact ⟨t, u, v, k _ _ (.inl rfl) e⟩
  | frz ob u ih => obtain ⟨e, q⟩ := x; exact ⟨k _ _ (.inl rfl) e, ih q⟩
  | tbl ps =>
    have e : h.get? a = some { cls := .none, data := .fields ps } := x
    show h'.get? a = some { cls := .none, data := .fields ps }
    exact k a _ (.inl rfl) e
  | met f y =>
    have e : h.get? a = some (PySem.W.methodObj (.ref f) (.ref y)) := x
    show h'.get? a = some (PySem.W.methodObj (.ref f) (.ref y))
    exact k a _ (.inl rfl) e
  | ext φ => obtain ⟨p, ⟨o, e⟩, st⟩ := x; exact ⟨st _ _ p fun o q => k _ _ (.inl rfl) q, ⟨o, k _ _ (.inl rfl) e⟩, st⟩
theorem HOk.lt (x : HOk P w H h) (e : H a = some o) : a < h.objs.size := (x a o e).lt
theorem HOk.fresh (x : HOk P w H h) (e : h.objs.size ≤ a) : H a = none := by
  cases q : H a with
  | none => rfl
  | some u => exact absurd (Nat.lt_of_lt_of_le (x.lt q) e) (Nat.lt_irrefl _)
theorem HOk.kept (x : HOk P w H h) (k : ∀ b u, h.get? b = some u → h'.get? b = some u) : HOk P w H h' := fun a o e =>
  (x a o e).stay (fun b u _ q => k b u q) (fun _ q => q) fun _ _ q => q
theorem HOk.laid (x : HOk P w H h) (k : ∀ b u, h.get? b = some u → h'.get? b = some u) (hp : h.objs.size ≤ a) (new : ObjOk P w (upd H a o) h' a o) : HOk P w (upd H a o) h' := fun b u e => by
  have hn := x.fresh hp
  by_cases hb : b = a
  · subst hb; rw [upd_same] at e; cases e; exact new
  · rw [upd_ne hb] at e
    exact (x b u e).stay (fun c v _ q => k c v q) (fun c q => by rw [upd_ne (ne_of_none q hn)]; exact q) fun c xs q => by rw [upd_ne (ne_of_none q hn)]; exact q
end
def Rd (H : Hp) (a : Addr) (u : HO) : Prop := H a = some u ∨ ∃ o, H a = some (.frz o u)
theorem Rd.ok {P : Program} {w : World} {H : Hp} {h : Heap} {a : Addr} {u : HO} (r : Rd H a u) (x : HOk P w H h) : ObjOk P w H h a u := by
  rcases r with r | ⟨o, r⟩
  · exact x a u r
  · obtain ⟨_, q⟩ := x a _ r
    exact q
def Mut : Option HO → Prop
  | some (.lst _) => True
  | some (.dK _) => True
  | some (.dT _) => True
  | some (.set _ _) => True
  | some (.ins _ _ _) => True
  | some (.ext _) => True
  | _ => False
section
variable {P : Program} {w : World} {H : Hp} {h h' : Heap} {x e : Addr} {o' : HO}
theorem HOk.write (ok : HOk P w H h) (mu : Mut (H x)) (he : e = x ∨ H e = some (.own x)) (k : ∀ b u, b ≠ e → h.get? b = some u → h'.get? b = some u) (heo : ∃ u, h'.get? e = some u)
    (new : ObjOk P w (upd H x o') h' x o') : HOk P w (upd H x o') h' := fun b u q => by
  have nown : ∀ c y, H c = some (.own y) → c ≠ x := fun c y r z => by subst z; rw [r] at mu; exact mu
  have ntup : ∀ c xs, H c = some (.tup xs) → c ≠ x := fun c xs r z => by subst z; rw [r] at mu; exact mu
  by_cases hb : b = x
  · subst hb; rw [upd_same] at q; cases q; exact new
  · rw [upd_ne hb] at q
    by_cases hbe : b = e
    · have q' : H b = some (.own x) := by
        rcases he with z | z
        · exact absurd (hbe.trans z) hb
        · rw [hbe]; exact z
      rw [q] at q'; cases q'
      obtain ⟨v, hv⟩ := heo
      exact ⟨v, by rw [hbe]; exact hv⟩
    · refine (ok b u q).stay (fun c v hc r => k c v ?_ r) (fun c r => by rw [upd_ne (nown c b r)]; exact r) fun c xs r => by rw [upd_ne (ntup c xs r)]; exact r
      rcases hc with rfl | hc
      · exact hbe
      · rintro rfl
        rcases he with z | z
        · exact nown c b hc z
        · rw [hc] at z; cases z; exact hb rfl
end
structure Un (fs ex : List Addr) (H H' : Hp) (h h' : Heap) : Prop where
  keep : ∀ b o, h.get? b = some o → H b = none → b ∉ fs → b ∉ ex → h'.get? b = some o
  slot : ∀ b o, h.get? b = some o → H b = none → b ∈ fs → b ∉ ex → ∃ sl, h'.get? b = some { o with slots := sl }
  free : ∀ b o, h.get? b = some o → H b = none → b ∉ ex → H' b = none
  there : ∀ b o, h.get? b = some o → b ∉ ex → ∃ o', h'.get? b = some o'
  tups : ∀ b xs, H b = some (.tup xs) → H' b = some (.tup xs)
  frzs : ∀ b o u, H b = some (.frz o u) → H' b = some (.frz o u)
  tbls : ∀ b ps, H b = some (.tbl ps) → ∃ more, H' b = some (.tbl (ps ++ more))
section
variable {fs fs' ex ex' : List Addr} {H H1 H2 : Hp} {h h1 h2 h' : Heap} {a x e : Addr} {o : HO}
theorem Un.any (u : Un fs ex H H1 h h1) {b : Addr} {ob : Obj} (q : h.get? b = some ob) (n : H b = none) (hx : b ∉ ex) : ∃ sl, h1.get? b = some { ob with slots := sl } := by
  by_cases hb : b ∈ fs
  · exact u.slot b ob q n hb hx
  · exact ⟨ob.slots, u.keep b ob q n hb hx⟩
theorem Un.trans (a : Un fs ex H H1 h h1) (b : Un fs ex H1 H2 h1 h2) : Un fs ex H H2 h h2 where
  keep := fun c ob q n hc hx => b.keep c ob (a.keep c ob q n hc hx) (a.free c ob q n hx) hc hx
  slot := fun c ob q n hc hx => by
    obtain ⟨sl, e1⟩ := a.slot c ob q n hc hx
    obtain ⟨sl', e2⟩ := b.slot c _ e1 (a.free c ob q n hx) hc hx
    exact ⟨sl', e2⟩
  free := fun c ob q n hx => by
    obtain ⟨o', e1⟩ := a.there c ob q hx
    exact b.free c o' e1 (a.free c ob q n hx) hx
  there := fun c ob q hx => by
    obtain ⟨o', e1⟩ := a.there c ob q hx
    exact b.there c o' e1 hx
  tups := fun c xs q => b.tups c xs (a.tups c xs q)
  frzs := fun c ob xs q => b.frzs c ob xs (a.frzs c ob xs q)
  tbls := fun c ps q => by
    obtain ⟨m1, e1⟩ := a.tbls c ps q
    obtain ⟨m2, e2⟩ := b.tbls c _ e1
    exact ⟨m1 ++ m2, by rw [e2, Array.append_assoc]⟩
theorem Un.kept (k : ∀ b u, h.get? b = some u → h'.get? b = some u) : Un fs ex H H h h' :=
  ⟨fun b ob q _ _ _ => k b ob q, fun b ob q _ _ _ => ⟨ob.slots, k b ob q⟩, fun _ _ _ n _ => n, fun b ob q _ => ⟨ob, k b ob q⟩, fun _ _ q => q, fun _ _ _ q => q, fun _ ps q => ⟨#[], by rw [q]; simp⟩⟩
theorem Un.refl : Un fs ex H H h h := Un.kept fun _ _ q => q
theorem Un.laid (k : ∀ b u, h.get? b = some u → h'.get? b = some u) (hp : h.objs.size ≤ a) (hn : H a = none) : Un fs ex H (upd H a o) h h' where
  keep := fun b u q _ _ _ => k b u q
  slot := fun b u q _ _ _ => ⟨u.slots, k b u q⟩
  free := fun b u q n _ => by rw [upd_ne (Nat.ne_of_lt (Nat.lt_of_lt_of_le (Heap.lt_size q) hp))]; exact n
  there := fun b u q _ => ⟨u, k b u q⟩
  tups := fun b xs q => by rw [upd_ne (ne_of_none q hn)]; exact q
  frzs := fun b u xs q => by rw [upd_ne (ne_of_none q hn)]; exact q
  tbls := fun b ps q => ⟨#[], by rw [upd_ne (ne_of_none q hn), q]; simp⟩
theorem Un.write (mu : Mut (H x)) (he : e = x ∨ H e = some (.own x)) (k : ∀ b u, b ≠ e → h.get? b = some u → h'.get? b = some u) (heo : ∃ u, h'.get? e = some u) : Un fs ex H (upd H x o) h h' := by
  have hx : ∀ b, H b = none → b ≠ x := fun b n z => by subst z; rw [n] at mu; exact mu
  have hb : ∀ b, H b = none → b ≠ e := fun b n z => by
    subst z
    rcases he with r | r
    · exact hx b n r
    · rw [n] at r; cases r
  have hm : ∀ b u, H b = some u → ¬ Mut (some u) → b ≠ x := fun b u q nm z => by subst z; rw [q] at mu; exact nm mu
  refine ⟨fun b u q n _ _ => k b u (hb b n) q, fun b u q n _ _ => ⟨u.slots, k b u (hb b n) q⟩, fun b u q n _ => by rw [upd_ne (hx b n)]; exact n, fun b u q _ => ?_,
    fun b xs q => by rw [upd_ne (hm b _ q fun z => z)]; exact q, fun b u xs q => by rw [upd_ne (hm b _ q fun z => z)]; exact q, fun b ps q => ⟨#[], by rw [upd_ne (hm b _ q fun z => z), q]; simp⟩⟩
  by_cases hbe : b = e
  · subst hbe; exact heo
  · exact ⟨u, k b u hbe q⟩
theorem Un.mono (u : Un fs ex H H1 h h1) (hs : ∀ b ∈ fs, b ∈ fs') (hx : ∀ b ∈ ex, b ∈ ex') : Un fs' ex' H H1 h h1 :=
  ⟨fun b ob q n hb he => u.keep b ob q n (fun z => hb (hs b z)) fun z => he (hx b z), fun _ _ q n _ he => u.any q n fun z => he (hx _ z), fun b ob q n he => u.free b ob q n fun z => he (hx b z), fun b ob q he => u.there b ob q fun z => he (hx b z), u.tups, u.frzs, u.tbls⟩
end
def trk (h : Heap) (H : Hp) : List Addr := (List.range h.objs.size).filter fun a => (H a).isSome
def hidT (h : Heap) (H : Hp) : Heap := PySem.W.hideAll h (trk h H)
theorem hidT_size (h : Heap) (H : Hp) : (hidT h H).objs.size = h.objs.size := PySem.W.hideAll_size _ _
theorem hidT_get {h : Heap} {H : Hp} {b : Addr} {o : Obj} (e : h.get? b = some o) (n : H b = none) : (hidT h H).get? b = some o :=
  PySem.W.hideAll_get _ e fun hm => by
    have q : (H b).isSome = true := (List.mem_filter.mp hm).2
    rw [n] at q; simp at q
theorem of_hidT {h : Heap} {H : Hp} {b : Addr} {o : Obj} (e : (hidT h H).get? b = some o) : h.get? b = some o ∧ H b = none := by
  have e' : h.get? b = some o := PySem.W.of_hideAll (trk h H) e
  refine ⟨e', ?_⟩
  cases q : H b with
  | none => rfl
  | some x =>
    have hm : b ∈ trk h H := List.mem_filter.mpr ⟨List.mem_range.mpr (Heap.lt_size e'), by simp [q]⟩
    have z : (hidT h H).get? b = none := PySem.W.hideAll_none (trk h H) hm
    rw [z] at e; cases e
end L2
namespace L2
open PySem PySem.Spec PyProof.Rows
structure Mod (K : PySem.W.Frag) (mg : Str → Option Value) (base : Heap) : Prop where
  kin : K.In base
  glob : base.Ns mainGlobals mg
  blt : ∃ mb, base.Ns builtinsNs mb ∧ ∀ x : Str, x ≠ "__name__" → mb x = bootBuiltins x
  nolimit : base.NoLimit
structure Cx where
  prog : Program
  w : World
  K : PySem.W.Frag
  mg : Str → Option Value
  base : Heap
  A : Around
  N : List Str
  s₀ : Shared
  H₀ : Hp
  env : Env
  outer : List Env
  stack : List Env
  ex : List Addr
  fn : Str → Bool
  calm : Bool
  pn : List (Addr × Obj)
  xe : Value → Shared → Prop
def frs (l : List Env) : List Addr := l.filterMap (·.frame)
abbrev Cx.fs (X : Cx) : List Addr := frs X.outer
def Vis (sc : Scope) (x : Str) : Prop := sc.names.lookup x = some .local ∨ sc.names.lookup x = some .cell ∨ sc.names.lookup x = some .free
def Loc (sc : Scope) (x : Str) : Prop := sc.names.lookup x = some .local ∨ sc.names.lookup x = some .cell
def Look (env : Env) (h : Heap) (m : Str → Option Value) (x : Str) (u : Value) : Prop :=
  (env.kindOf x = some .local ∧ m x = some u) ∨ ((env.kindOf x = some .cell ∨ env.kindOf x = some .free) ∧ ∃ c, env.cells.lookup x = some c ∧ h.IsCell c (some u))
structure Cx.Ok (X : Cx) : Prop where
  mod : Mod X.K X.mg X.base
  kind : X.env.scope.kind = .function
  glob : X.env.globals = mainGlobals
  blt : X.env.builtins = builtinsNs
  above : X.s₀.heap.objs.size ≤ X.env.locals
  inj : ∀ x y c, X.env.cells.lookup x = some c → X.env.cells.lookup y = some c → x = y
  has : ∀ x, (X.env.kindOf x = some .cell ∨ X.env.kindOf x = some .free) → ∃ c, X.env.cells.lookup x = some c
  cab : ∀ x c, X.fn x = true → X.env.cells.lookup x = some c → X.s₀.heap.objs.size ≤ c
  hd : X.calm = true → X.A.handled = none
  frames : X.A.frames = some X.stack
  stk : X.stack = X.outer ∨ (X.stack = X.env :: X.outer ∧ X.env.frame = some X.env.locals)
  exf : ∀ b ∈ X.ex, b ≠ X.env.locals ∧ ∀ x c, X.env.cells.lookup x = some c → c ≠ b
  bs : ∀ b o, X.base.get? b = some o → X.s₀.heap.get? b = some o ∧ X.H₀ b = none
  bsz : X.base.objs.size ≤ X.s₀.heap.objs.size
  noex : ∀ b o, X.base.get? b = some o → b ∉ X.ex
  exfs : ∀ b ∈ X.ex, b ∉ X.fs
  funs : X.s₀.heap.FunFrames X.base X.outer
  frf : ∀ b ∈ X.fs, X.H₀ b = none
structure Inv (X : Cx) (pins : List (Addr × Obj)) (σ : List (Option V)) (H : Hp) (s : Shared) : Prop where
  ok : X.Ok
  os : s.os = X.s₀.os
  bare : AllBare s.gens
  base : Un X.fs X.ex X.H₀ H X.s₀.heap s.heap
  loc : ∃ m, s.heap.Ns X.env.locals m ∧ ∀ (i : Nat) (x : Str) (v : V), X.N[i]? = some x → σ[i]? = some (some v) → Vis X.env.scope x → ∃ u, RelV v u ∧ Look X.env s.heap m x u
  cell : ∀ x c, X.env.cells.lookup x = some c → ∃ v, s.heap.IsCell c v
  free : H X.env.locals = none
  freeC : ∀ x c, X.env.cells.lookup x = some c → H c = none
  pin : ∀ p ∈ X.pn ++ pins, s.heap.get? p.1 = some p.2 ∧ H p.1 = none ∧ p.1 ≠ X.env.locals ∧ p.1 ∉ X.fs ∧ ∀ v, p.2.data ≠ .cell v
  hok : HOk X.prog X.w H s.heap
  len : σ.length = X.N.length
section
variable {X : Cx} {pins : List (Addr × Obj)} {σ : List (Option V)} {H H' : Hp} {s : Shared} {h' : Heap}
theorem Cx.Ok.nofr (ok : X.Ok) {b : Addr} {o : Obj} (e : X.base.get? b = some o) : b ∉ X.fs := fun hb => by
  have := (ok.funs.mem hb).1
  rw [e] at this; cases this
theorem Inv.bs (I : Inv X pins σ H s) : ∀ b o, X.base.get? b = some o → s.heap.get? b = some o ∧ H b = none := fun b o e =>
  ⟨I.base.keep b o (I.ok.bs b o e).1 (I.ok.bs b o e).2 (I.ok.nofr e) (I.ok.noex b o e), I.base.free b o (I.ok.bs b o e).1 (I.ok.bs b o e).2 (I.ok.noex b o e)⟩
theorem Inv.bk (I : Inv X pins σ H s) : ∀ b o, X.base.get? b = some o → s.heap.get? b = some o := fun b o e => (I.bs b o e).1
theorem Inv.mod (I : Inv X pins σ H s) : Mod X.K X.mg X.base := I.ok.mod
theorem Inv.kIn (I : Inv X pins σ H s) : X.K.In s.heap := I.ok.mod.kin.keeps I.bk
theorem Inv.lt (I : Inv X pins σ H s) : X.env.locals < s.heap.objs.size := let ⟨_, hn, _⟩ := I.loc; hn.lt
theorem Inv.sz (I : Inv X pins σ H s) : X.s₀.heap.objs.size ≤ s.heap.objs.size := Nat.le_trans I.ok.above (Nat.le_of_lt I.lt)
theorem Inv.nofs (I : Inv X pins σ H s) {a : Addr} (h : s.heap.objs.size ≤ a) : a ∉ X.fs := fun hb => by
  obtain ⟨_, o, ho, _⟩ := I.ok.funs.mem hb
  exact absurd (Nat.lt_of_lt_of_le (Heap.lt_size ho) (Nat.le_trans I.sz h)) (Nat.lt_irrefl _)
theorem Inv.cne (I : Inv X pins σ H s) : ∀ x c, X.env.cells.lookup x = some c → c ≠ X.env.locals := fun x c e z => by
  obtain ⟨v, o, ho, hd⟩ := I.cell x c e
  obtain ⟨m, ⟨o', es, ep, ho', hd', _⟩, _⟩ := I.loc
  rw [z, ho'] at ho; cases ho; rw [hd'] at hd; cases hd
theorem Inv.funs (I : Inv X pins σ H s) : s.heap.FunFrames X.base X.outer := by
  have all : ∀ (l : List Env), (∀ b ∈ frs l, b ∈ X.fs) → X.s₀.heap.FunFrames X.base l → s.heap.FunFrames X.base l := by
    intro l
    induction l with
    | nil => intro _ _; trivial
    | cons env r ih =>
      intro hs hl
      obtain ⟨hk, ⟨L, o, hf, hn, ho, hd⟩, hr⟩ := hl
      have hL : L ∈ X.fs := hs L (by unfold frs; rw [List.filterMap_cons, hf]; exact List.mem_cons_self)
      obtain ⟨sl, e⟩ := I.base.slot L o ho (I.ok.frf L hL) hL fun z => I.ok.exfs L z hL
      exact ⟨hk, ⟨L, _, hf, hn, e, hd⟩, ih (fun b hb => hs b (by unfold frs; rw [List.filterMap_cons, hf]; exact List.mem_cons_of_mem _ hb)) hr⟩
  exact all X.outer (fun _ hb => hb) I.ok.funs
theorem Inv.stack (I : Inv X pins σ H s) : s.heap.FunFrames X.base X.stack := by
  rcases I.ok.stk with e | ⟨e, hf⟩
  · rw [e]; exact I.funs
  · rw [e]
    obtain ⟨m, hn, _⟩ := I.loc
    refine .cons (by rw [I.ok.kind]; decide) hf hn ?_ I.funs
    exact Heap.get?_none_of_le (Nat.le_trans I.ok.bsz I.ok.above)
theorem Inv.stkSub (I : Inv X pins σ H s) : ∀ b ∈ frs X.stack, b ∈ X.env.locals :: X.fs := fun b hb => by
  rcases I.ok.stk with e | ⟨e, hf⟩
  · rw [e] at hb; exact List.mem_cons_of_mem _ hb
  · rw [e] at hb
    unfold frs at hb
    rw [List.filterMap_cons, hf] at hb
    exact hb
theorem Inv.stkFree (I : Inv X pins σ H s) : ∀ b ∈ frs X.stack, H b = none := fun b hb => by
  rcases List.mem_cons.mp (I.stkSub b hb) with e | hb
  · rw [e]; exact I.free
  · obtain ⟨_, o, ho, _⟩ := I.ok.funs.mem hb
    exact I.base.free b o ho (I.ok.frf b hb) fun z => I.ok.exfs b z hb
theorem Inv.step {g' : Array GenState} {t' : Nat} {d' : Drawn} {ch : List Addr} (I : Inv X pins σ H s)
    (hch : ∀ b ∈ ch, (b ∈ X.ex ∨ X.s₀.heap.objs.size ≤ b) ∧ b ≠ X.env.locals ∧ (∀ x c, X.env.cells.lookup x = some c → c ≠ b) ∧ ∀ p ∈ X.pn ++ pins, p.1 ≠ b)
    (keep : ∀ b o, b ≠ X.env.locals → b ∉ X.fs → b ∉ ch → s.heap.get? b = some o → H b = none → h'.get? b = some o)
    (slot : ∀ b o, b ≠ X.env.locals → b ∈ X.fs → b ∉ ch → s.heap.get? b = some o → H b = none → ∃ sl, h'.get? b = some { o with slots := sl }) (free : ∀ b o, b ∉ ch → s.heap.get? b = some o → H b = none → H' b = none)
    (there : ∀ b o, b ∉ ch → s.heap.get? b = some o → ∃ o', h'.get? b = some o')
    (tups : ∀ b xs, H b = some (.tup xs) → H' b = some (.tup xs)) (frzs : ∀ b o u, H b = some (.frz o u) → H' b = some (.frz o u)) (tbls : ∀ b ps, H b = some (.tbl ps) → ∃ more, H' b = some (.tbl (ps ++ more)))
    (ns : ∀ m, s.heap.Ns X.env.locals m → h'.Ns X.env.locals m) (hok : HOk X.prog X.w H' h') (hg : AllBare g') :
    Inv X pins σ H' { s with heap := h', gens := g', drawn := d', toks := t' } := by
  have neL : ∀ b o, X.s₀.heap.get? b = some o → b ≠ X.env.locals := fun b o e => Nat.ne_of_lt (Nat.lt_of_lt_of_le (Heap.lt_size e) I.ok.above)
  have neC : ∀ b o, X.s₀.heap.get? b = some o → b ∉ X.ex → b ∉ ch := fun b o e hx hb => by
    rcases (hch b hb).1 with z | z
    · exact hx z
    · exact absurd (Nat.lt_of_lt_of_le (Heap.lt_size e) z) (Nat.lt_irrefl _)
  have cellK : ∀ x c, X.env.cells.lookup x = some c → ∀ v, s.heap.IsCell c v → h'.IsCell c v := fun x c e v ⟨o, ho, hd⟩ => by
    have nch : c ∉ ch := fun z => (hch c z).2.2.1 x c e rfl
    by_cases hc : c ∈ X.fs
    · obtain ⟨sl, q⟩ := slot c o (I.cne x c e) hc nch ho (I.freeC x c e)
      exact ⟨_, q, hd⟩
    · exact ⟨o, keep c o (I.cne x c e) hc nch ho (I.freeC x c e), hd⟩
  refine ⟨I.ok, I.os, hg, ⟨fun b o e n hb hx => ?_, fun b o e n hb hx => ?_, fun b o e n hx => ?_, fun b o e hx => ?_, fun b xs e => tups b xs (I.base.tups b xs e), fun b o xs e => frzs b o xs (I.base.frzs b o xs e), fun b ps e => ?_⟩, ?_, fun x c e => ?_, ?_, fun x c e => ?_, fun p hp => ?_, hok, I.len⟩
  · exact keep b o (neL b o e) hb (neC b o e hx) (I.base.keep b o e n hb hx) (I.base.free b o e n hx)
  · obtain ⟨sl, e1⟩ := I.base.slot b o e n hb hx
    obtain ⟨sl', e2⟩ := slot b _ (neL b o e) hb (neC b o e hx) e1 (I.base.free b o e n hx)
    exact ⟨sl', e2⟩
  · obtain ⟨o', e1⟩ := I.base.there b o e hx
    exact free b o' (neC b o e hx) e1 (I.base.free b o e n hx)
  · obtain ⟨o', e1⟩ := I.base.there b o e hx
    exact there b o' (neC b o e hx) e1
  · obtain ⟨m1, e1⟩ := I.base.tbls b ps e
    obtain ⟨m2, e2⟩ := tbls b _ e1
    exact ⟨m1 ++ m2, by rw [e2, Array.append_assoc]⟩
  · obtain ⟨m, hn, hl⟩ := I.loc
    refine ⟨m, ns m hn, fun i x v e1 e2 e3 => ?_⟩
    obtain ⟨u, r, l⟩ := hl i x v e1 e2 e3
    refine ⟨u, r, ?_⟩
    rcases l with l | ⟨k, c, e, z⟩
    · exact .inl l
    · exact .inr ⟨k, c, e, cellK x c e _ z⟩
  · obtain ⟨v, z⟩ := I.cell x c e
    exact ⟨v, cellK x c e v z⟩
  · obtain ⟨m, ⟨o, _, _, ho, _⟩, _⟩ := I.loc
    exact free _ o (fun z => (hch _ z).2.1 rfl) ho I.free
  · obtain ⟨v, o, ho, hd⟩ := I.cell x c e
    exact free c o (fun z => (hch c z).2.2.1 x c e rfl) ho (I.freeC x c e)
  · obtain ⟨e, n, ne, nf, d⟩ := I.pin p hp
    have nch : p.1 ∉ ch := fun z => (hch p.1 z).2.2.2 p hp rfl
    exact ⟨keep p.1 p.2 ne nf nch e n, free p.1 p.2 nch e n, ne, nf, d⟩
theorem Inv.un {t' : Nat} (I : Inv X pins σ H s) (u : Un X.fs [] H H' s.heap h') (hok : HOk X.prog X.w H' h') : Inv X pins σ H' { s with heap := h', toks := t' } := by
  obtain ⟨m, ⟨o, es, ep, ho, r⟩, _⟩ := id I.loc
  obtain ⟨sl, hL⟩ := u.any ho I.free (by simp)
  exact I.step (g' := s.gens) (d' := s.drawn) (ch := []) (fun _ z => nomatch z) (fun b o _ hb _ e n => u.keep b o e n hb (by simp)) (fun b o _ hb _ e n => u.slot b o e n hb (by simp)) (fun b o _ e n => u.free b o e n (by simp)) (fun b o _ e => u.there b o e (by simp)) u.tups u.frzs u.tbls (fun m' hm => by
    obtain ⟨o', es', ep', ho', r'⟩ := hm
    rw [ho] at ho'; cases ho'
    exact ⟨_, es', ep', hL, r'⟩) hok I.bare
theorem Inv.call {g' : Array GenState} {t' : Nat} {d' : Drawn} {ch : List Addr} (I : Inv X pins σ H s) (u : Un (frs X.stack) ch H H' s.heap h') (hok : HOk X.prog X.w H' h') (hg : AllBare g')
    (hch : ∀ b ∈ ch, (b ∈ X.ex ∨ X.s₀.heap.objs.size ≤ b) ∧ b ≠ X.env.locals ∧ (∀ x c, X.env.cells.lookup x = some c → c ≠ b) ∧ ∀ p ∈ X.pn ++ pins, p.1 ≠ b) :
    Inv X pins σ H' { s with heap := h', gens := g', drawn := d', toks := t' } := by
  obtain ⟨m, ⟨o, es, ep, ho, r⟩, _⟩ := id I.loc
  obtain ⟨sl, hL⟩ := u.any ho I.free fun z => (hch _ z).2.1 rfl
  exact I.step (ch := ch) hch (fun b o hL hb hc e n => u.keep b o e n (fun z => (List.mem_cons.mp (I.stkSub b z)).elim hL hb) hc) (fun b o _ _ hc e n => u.any e n hc) (fun b o hc e n => u.free b o e n hc) (fun b o hc e => u.there b o e hc) u.tups u.frzs u.tbls (fun m' hm => by
    obtain ⟨o', es', ep', ho', r'⟩ := hm
    rw [ho] at ho'; cases ho'
    exact ⟨_, es', ep', hL, r'⟩) hok hg
theorem Inv.turned {t' : Nat} {it : Addr} (I : Inv X pins σ H s) (k : ∀ b o, b ≠ it → s.heap.get? b = some o → h'.get? b = some o) (hn : H it = none) (hL : it ≠ X.env.locals)
    (h1 : it ∈ X.ex ∨ X.s₀.heap.objs.size ≤ it) (h2 : ∀ x c, X.env.cells.lookup x = some c → c ≠ it) (h3 : ∀ p ∈ X.pn ++ pins, p.1 ≠ it) : Inv X pins σ H { s with heap := h', toks := t' } := by
  have nit : ∀ b u, H b = some u → b ≠ it := fun b u e z => by rw [z, hn] at e; cases e
  refine I.step (g' := s.gens) (d' := s.drawn) (ch := [it]) (fun b hb => ?_) (fun b o _ _ hc e _ => k b o (fun z => hc (by simp [z])) e) (fun b o _ _ hc e _ => ⟨o.slots, k b o (fun z => hc (by simp [z])) e⟩) (fun _ _ _ _ n => n)
    (fun b o hc e => ⟨o, k b o (fun z => hc (by simp [z])) e⟩) (fun _ _ e => e) (fun _ _ _ e => e) (fun b ps e => ⟨#[], by rw [e]; simp⟩) (fun m hm => ?_) (fun b u e => ?_) I.bare
  · have e : b = it := by simpa using hb
    subst e
    exact ⟨h1, hL, h2, h3⟩
  · obtain ⟨o, es, ep, ho, r⟩ := hm
    exact ⟨o, es, ep, k _ o (Ne.symm hL) ho, r⟩
  · refine (I.hok b u e).stay (fun c v hc q => k c v ?_ q) (fun _ q => q) fun _ _ q => q
    rcases hc with z | z
    · rw [z]; exact nit b u e
    · exact nit c _ z
theorem Inv.tok (I : Inv X pins σ H s) (t : Nat) : Inv X pins σ H { s with toks := t } := I.un (h' := s.heap) (t' := t) Un.refl I.hok
theorem Inv.kept {t' : Nat} (I : Inv X pins σ H s) (k : ∀ b u, s.heap.get? b = some u → h'.get? b = some u) : Inv X pins σ H { s with heap := h', toks := t' } := I.un (Un.kept k) (I.hok.kept k)
theorem Inv.laid {a : Addr} {o : HO} {t' : Nat} (I : Inv X pins σ H s) (k : ∀ b u, s.heap.get? b = some u → h'.get? b = some u) (hp : s.heap.objs.size ≤ a) (new : ObjOk X.prog X.w (upd H a o) h' a o) :
    Inv X pins σ (upd H a o) { s with heap := h', toks := t' } := I.un (Un.laid k hp (I.hok.fresh hp)) (I.hok.laid k hp new)
theorem Inv.write {x e : Addr} {o : HO} {t' : Nat} (I : Inv X pins σ H s) (mu : Mut (H x)) (he : e = x ∨ H e = some (.own x)) (k : ∀ b u, b ≠ e → s.heap.get? b = some u → h'.get? b = some u) (heo : ∃ u, h'.get? e = some u)
    (new : ObjOk X.prog X.w (upd H x o) h' x o) : Inv X pins σ (upd H x o) { s with heap := h', toks := t' } := I.un (Un.write mu he k heo) (I.hok.write mu he k heo new)
theorem Inv.pins_of {pins' : List (Addr × Obj)} (I : Inv X pins σ H s) (h : ∀ p ∈ pins', s.heap.get? p.1 = some p.2 ∧ H p.1 = none ∧ p.1 ≠ X.env.locals ∧ p.1 ∉ X.fs ∧ ∀ v, p.2.data ≠ .cell v) : Inv X pins' σ H s :=
  ⟨I.ok, I.os, I.bare, I.base, I.loc, I.cell, I.free, I.freeC, fun p hp => (List.mem_append.mp hp).elim (fun z => I.pin p (List.mem_append_left _ z)) (h p), I.hok, I.len⟩
theorem nodup_ix {N : List Str} (hN : N.Nodup) {i j : Nat} {x : Str} (a : N[i]? = some x) (b : N[j]? = some x) : i = j := by
  obtain ⟨h1, e1⟩ := List.getElem?_eq_some_iff.mp a
  obtain ⟨h2, e2⟩ := List.getElem?_eq_some_iff.mp b
  exact (List.getElem_inj hN).mp (e1.trans e2.symm)
theorem store_ok2 {M : Model} {A : Around} {E : Value → Shared → Prop} {i : Nat} {x : Str} {v : V} {u : Value} {Q : Unit → Shared → Prop} (I : Inv X pins σ H s) (hN : X.N.Nodup) (hi : X.N[i]? = some x) (hx : Loc X.env.scope x) (r : RelV v u)
    (h : ∀ s', Inv X pins (σ.set i (some v)) H s' → (∃ a, Heap.SameBut a s.heap s'.heap ∧ (a = X.env.locals ∨ X.env.cells.lookup x = some a)) → Q () s') (hf : X.fn x = true ∨ X.env.scope.names.lookup x = some .local := by first | exact .inl rfl | exact .inr rfl | assumption) : wpAny M A (storeName X.env x u) Q E s := by
  obtain ⟨m, hn, hl⟩ := id I.loc
  have hcls : (X.env.scope.kind == .class || (X.env.scope.kind == .module && X.env.locals != X.env.globals)) = false := by rw [I.ok.kind]; rfl
  have hiσ : i < σ.length := by rw [I.len]; exact (List.getElem?_eq_some_iff.mp hi).1
  have cne := I.cne
  have tracked : ∀ {a : Addr} {h' : Heap}, (∃ o, s.heap.get? a = some o ∧ H a = none) → Heap.SameBut a s.heap h' → HOk X.prog X.w H h' := fun {a h'} ha hs b ob e => by
    obtain ⟨_, _, hfree⟩ := ha
    refine (I.hok b ob e).stay (fun c w' hc q => (hs.2 c ?_).trans q) (fun _ q => q) fun _ _ q => q
    rintro rfl
    rcases hc with rfl | hc
    · rw [hfree] at e; cases e
    · rw [hfree] at hc; cases hc
  rcases hx with hk | hk
  · refine wpAny_storeName_local hk hn (fun h' hn' hs => ?_) hcls
    obtain ⟨oL, _, _, hoL, _⟩ := id hn
    refine h _ ⟨I.ok, I.os, I.bare, ⟨fun b o e n hb hx => ?_, fun b o e n hb hx => ?_, I.base.free, fun b o e hx => ?_, I.base.tups, I.base.frzs, I.base.tbls⟩, ⟨_, hn', fun j y v' e1 e2 e3 => ?_⟩, fun y c e => ?_, I.free, I.freeC, fun p hp => ?_, tracked ⟨oL, hoL, I.free⟩ hs, by simpa using I.len⟩ ⟨_, hs, .inl rfl⟩
    · exact (hs.2 b (Nat.ne_of_lt (Nat.lt_of_lt_of_le (Heap.lt_size e) I.ok.above))).trans (I.base.keep b o e n hb hx)
    · obtain ⟨sl, e1⟩ := I.base.slot b o e n hb hx
      exact ⟨sl, (hs.2 b (Nat.ne_of_lt (Nat.lt_of_lt_of_le (Heap.lt_size e) I.ok.above))).trans e1⟩
    · obtain ⟨o', e1⟩ := I.base.there b o e hx
      exact ⟨o', (hs.2 b (Nat.ne_of_lt (Nat.lt_of_lt_of_le (Heap.lt_size e) I.ok.above))).trans e1⟩
    · by_cases hj : j = i
      · subst hj
        rw [hi] at e1; cases e1
        rw [List.getElem?_set_self hiσ] at e2
        cases e2
        exact ⟨u, r, .inl ⟨hk, by simp⟩⟩
      · rw [List.getElem?_set_ne (Ne.symm hj)] at e2
        obtain ⟨u', r', q⟩ := hl j y v' e1 e2 e3
        refine ⟨u', r', ?_⟩
        rcases q with ⟨k, e⟩ | ⟨k, c, e, z⟩
        · refine .inl ⟨k, ?_⟩
          have : y ≠ x := fun e => hj (nodup_ix hN e1 (e ▸ hi))
          simp [this, e]
        · exact .inr ⟨k, c, e, z.sameBut hs (cne y c e)⟩
    · obtain ⟨w', z⟩ := I.cell y c e
      exact ⟨w', z.sameBut hs (cne y c e)⟩
    · obtain ⟨e, n, ne, nf, d⟩ := I.pin p hp
      exact ⟨(hs.2 p.1 ne).trans e, n, ne, nf, d⟩
  · have hfn : X.fn x = true := by
      rcases hf with z | z
      · exact z
      · rw [z] at hk; cases hk
    obtain ⟨c, hc⟩ := I.ok.has x (.inl hk)
    obtain ⟨w', z⟩ := I.cell x c hc
    refine wpAny_storeName_cell I.ok.kind hk hc z (fun h' hc' hs => ?_)
    obtain ⟨oc, hoc, hocd⟩ := id z
    refine h { s with heap := h' } ⟨I.ok, I.os, I.bare, ⟨fun b o e n hb hx => ?_, fun b o e n hb hx => ?_, I.base.free, fun b o e hx => ?_, I.base.tups, I.base.frzs, I.base.tbls⟩, ⟨m, hn.sameBut hs (Ne.symm (cne x c hc)), fun j y v' e1 e2 e3 => ?_⟩, fun y c' e => ?_, I.free, I.freeC, fun p hp => ?_, tracked ⟨oc, hoc, I.freeC x c hc⟩ hs, by simpa using I.len⟩ ⟨c, hs, .inr hc⟩
    · exact (hs.2 b (Nat.ne_of_lt (Nat.lt_of_lt_of_le (Heap.lt_size e) (I.ok.cab x c hfn hc)))).trans (I.base.keep b o e n hb hx)
    · obtain ⟨sl, e1⟩ := I.base.slot b o e n hb hx
      exact ⟨sl, (hs.2 b (Nat.ne_of_lt (Nat.lt_of_lt_of_le (Heap.lt_size e) (I.ok.cab x c hfn hc)))).trans e1⟩
    · obtain ⟨o', e1⟩ := I.base.there b o e hx
      exact ⟨o', (hs.2 b (Nat.ne_of_lt (Nat.lt_of_lt_of_le (Heap.lt_size e) (I.ok.cab x c hfn hc)))).trans e1⟩
    · by_cases hj : j = i
      · subst hj
        rw [hi] at e1; cases e1
        rw [List.getElem?_set_self hiσ] at e2
        cases e2
        exact ⟨u, r, .inr ⟨.inl hk, c, hc, hc'⟩⟩
      · rw [List.getElem?_set_ne (Ne.symm hj)] at e2
        obtain ⟨u', r', q⟩ := hl j y v' e1 e2 e3
        refine ⟨u', r', ?_⟩
        rcases q with q | ⟨k, c', e, z'⟩
        · exact .inl q
        · refine .inr ⟨k, c', e, z'.sameBut hs ?_⟩
          rintro rfl
          exact hj (nodup_ix hN e1 (I.ok.inj _ _ _ e hc ▸ hi))
    · by_cases hcc : c' = c
      · subst hcc; exact ⟨_, hc'⟩
      · obtain ⟨w2, z2⟩ := I.cell y c' e
        exact ⟨w2, z2.sameBut hs hcc⟩
    · obtain ⟨e, n, ne, nf, d⟩ := I.pin p hp
      refine ⟨(hs.2 p.1 ?_).trans e, n, ne, nf, d⟩
      intro q
      rw [q, hoc] at e
      have q' : oc = p.2 := Option.some.inj e
      exact d w' (by rw [← q']; exact hocd)
theorem store_ok {M : Model} {A : Around} {E : Value → Shared → Prop} {i : Nat} {x : Str} {v : V} {u : Value} {Q : Unit → Shared → Prop} (I : Inv X pins σ H s) (hN : X.N.Nodup) (hi : X.N[i]? = some x) (hx : Loc X.env.scope x) (r : RelV v u)
    (h : ∀ s', Inv X pins (σ.set i (some v)) H s' → Q () s') (hf : X.fn x = true ∨ X.env.scope.names.lookup x = some .local := by first | exact .inl rfl | exact .inr rfl | assumption) : wpAny M A (storeName X.env x u) Q E s :=
  store_ok2 I hN hi hx r (fun s' I' _ => h s' I') hf
theorem Inv.call' {s' : Shared} {ch : List Addr} (I : Inv X pins σ H s) (ho : s'.os = s.os) (u : Un (frs X.stack) ch H H' s.heap s'.heap) (hok : HOk X.prog X.w H' s'.heap) (hg : AllBare s'.gens)
    (hch : ∀ b ∈ ch, (b ∈ X.ex ∨ X.s₀.heap.objs.size ≤ b) ∧ b ≠ X.env.locals ∧ (∀ x c, X.env.cells.lookup x = some c → c ≠ b) ∧ ∀ p ∈ X.pn ++ pins, p.1 ≠ b) : Inv X pins σ H' s' := by
  obtain ⟨h', g', d', t', o'⟩ := s'
  have e : o' = s.os := ho
  subst e
  exact I.call (g' := g') (t' := t') (d' := d') u hok hg hch
end
abbrev XK := Value → Option Addr → Hp → Prop
abbrev St := List (Option V)
abbrev VK := V → Hp → Prop
abbrev TE := St → Hp → VK → Prop
abbrev TT := St → Hp → (Bool → Hp → Prop) → Prop
abbrev TA := St → Hp → (List V → Hp → Prop) → Prop
structure Ends where
  nx : St → Hp → Prop
  rt : VK
  bk : St → Hp → Prop := fun _ _ => False
  ct : St → Hp → Prop := fun _ _ => False
abbrev TS := Ends → St → Hp → Prop
def EP (X : Cx) (pins : List (Addr × Obj)) (σ : St) (Q : VK) (u : Value) (s' : Shared) : Prop := ∃ v H', Inv X pins σ H' s' ∧ RelV v u ∧ Q v H'
def TP (X : Cx) (pins : List (Addr × Obj)) (σ : St) (Q : Bool → Hp → Prop) (b : Bool) (s' : Shared) : Prop := ∃ H', Inv X pins σ H' s' ∧ Q b H'
def AP (X : Cx) (pins : List (Addr × Obj)) (σ : St) (Q : List V → Hp → Prop) (us : List Value) (s' : Shared) : Prop := ∃ vs H', Inv X pins σ H' s' ∧ Vals vs us ∧ Q vs H'
def SP (X : Cx) (pins : List (Addr × Obj)) (D : Ends) (f : Flow) (s' : Shared) : Prop :=
  match f with
  | .next => ∃ σ' H', Inv X pins σ' H' s' ∧ D.nx σ' H'
  | .brk => ∃ σ' H', Inv X pins σ' H' s' ∧ D.bk σ' H'
  | .cont => ∃ σ' H', Inv X pins σ' H' s' ∧ D.ct σ' H'
  | .ret u => ∃ v σ' H', Inv X pins σ' H' s' ∧ RelV v u ∧ D.rt v H'
def PE (X : Cx) (e : Expr) (t : TE) : Prop :=
  ∀ (pins : List (Addr × Obj)) (s : Shared) (σ : St) (H : Hp) (Q : VK), Inv X pins σ H s → t σ H Q → wpAny (model X.prog X.w) X.A (eval e X.env) (EP X pins σ Q) X.xe s
def PT (X : Cx) (e : Expr) (t : TT) : Prop :=
  ∀ (pins : List (Addr × Obj)) (s : Shared) (σ : St) (H : Hp) (Q : Bool → Hp → Prop), Inv X pins σ H s → t σ H Q → wpAny (model X.prog X.w) X.A (isTrue e X.env (eval e X.env)) (TP X pins σ Q) X.xe s
def PW (X : Cx) (e : Expr) (t : TT) : Prop :=
  ∀ (whole : Sem Value) (pins : List (Addr × Obj)) (s : Shared) (σ : St) (H : Hp) (Q : Bool → Hp → Prop), Inv X pins σ H s → t σ H Q → wpAny (model X.prog X.w) X.A (isTrue e X.env whole) (TP X pins σ Q) X.xe s
theorem PW.pt {X : Cx} {e : Expr} {t : TT} (h : PW X e t) : PT X e t := h _
def PA (X : Cx) (es : List Expr) (t : TA) : Prop :=
  ∀ (pos : Pos) (pins : List (Addr × Obj)) (s : Shared) (σ : St) (H : Hp) (Q : List V → Hp → Prop), Inv X pins σ H s → t σ H Q → wpAny (model X.prog X.w) X.A (spliced (backTo pos (starEach es X.env))) (AP X pins σ Q) X.xe s
def PS (X : Cx) (st : Stmt) (t : TS) : Prop :=
  ∀ (pins : List (Addr × Obj)) (s : Shared) (σ : St) (H : Hp) (D : Ends), Inv X pins σ H s → t D σ H → wpAny (model X.prog X.w) X.A (exec st X.env) (SP X pins D) X.xe s
def PSs (X : Cx) (st : List Stmt) (t : TS) : Prop :=
  ∀ (pins : List (Addr × Obj)) (s : Shared) (σ : St) (H : Hp) (D : Ends), Inv X pins σ H s → t D σ H → wpAny (model X.prog X.w) X.A (execs st X.env) (SP X pins D) X.xe s
theorem thn {α : Type} {t : Sem α} {Q Q' : α → Shared → Prop} {M : Model} {A : Around} {E : Value → Shared → Prop} {s : Shared} (h : wpAny M A t Q E s) (hQ : ∀ a s, Q a s → Q' a s) : wpAny M A t Q' E s := wpAny_mono h hQ fun _ _ x => x
end L2
namespace L2
open PySem PySem.Spec PyProof.Rows
section
variable {X : Cx}
theorem bin {a b : Expr} {ta tb : TE} (ha : PE X a ta) (hb : PE X b tb) {pins : List (Addr × Obj)} {s : Shared} {σ : St} {H : Hp} {R : V → V → Hp → Prop} (I : Inv X pins σ H s) (h : ta σ H fun x H1 => tb σ H1 fun y H2 => R x y H2)
    {α : Type} {Q : α → Shared → Prop} {f : Value → Value → Sem α}
    (hf : ∀ v u s2 x y H2, Inv X pins σ H2 s2 → RelV x v → RelV y u → R x y H2 → wpAny (model X.prog X.w) X.A (f v u) Q X.xe s2) :
    wpAny (model X.prog X.w) X.A (eval a X.env) (fun v s₁ => wpAny (model X.prog X.w) X.A (eval b X.env) (fun u s₂ => wpAny (model X.prog X.w) X.A (f v u) Q X.xe s₂) X.xe s₁) X.xe s := by
  refine thn (ha pins s σ H _ I h) fun v s1 ⟨x, H1, I1, r1, q1⟩ => ?_
  refine thn (hb pins s1 σ H1 _ I1 q1) fun u s2 ⟨y, H2, I2, r2, q2⟩ => ?_
  exact hf v u s2 x y H2 I2 r1 r2 q2
def tVar (i : Nat) : TE := fun σ H Q => ∃ v, σ[i]? = some (some v) ∧ Q v H
def tC (v : V) : TE := fun _ H Q => Q v H
theorem pe_var {i : Nat} {x : Str} {pos : Pos} (hN : X.N[i]? = some x) (hv : Vis X.env.scope x) (hd : (x == ("__debug__" : Str)) = false := by decide) (hcd : (x == ("__classdict__" : Str)) = false := by decide) : PE X (.Name x pos) (tVar i) := by
  intro pins s σ H Q I h
  obtain ⟨v, e, h⟩ := h
  obtain ⟨m, hn, hl⟩ := I.loc
  obtain ⟨u, r, l⟩ := hl i x v hN e hv
  have fin : EP X pins σ Q u s := ⟨v, H, I, r, h⟩
  rcases l with ⟨hk, hm⟩ | ⟨hk, c, hc, hcell⟩
  · exact wpAny_Name (wpAny_loadName_local I.ok.kind hk hn hm fin) hd
  · rcases hk with hk | hk
    · exact wpAny_Name (wpAny_loadName_cell I.ok.kind hk hc hcell fin) hd
    · exact wpAny_Name (wpAny_loadName_free I.ok.kind hk hc hcell fin hcd) hd
theorem pe_int {i j pos} : PE X (.Constant (.int i) j pos) (tC (.int i)) := fun _ _ _ H _ I h => wpAny_Constant_int ⟨.int i, H, I.tok _, ⟨_, rfl⟩, h⟩
theorem pe_bl {b j pos} : PE X (.Constant (.bool b) j pos) (tC (.bl b)) := fun _ _ _ H _ I h => Constant_bool ⟨.bl b, H, I, rfl, h⟩
theorem pe_non {j pos} : PE X (.Constant .none j pos) (tC .non) := fun _ _ _ H _ I h => Constant_none ⟨.non, H, I, rfl, h⟩
theorem pe_str {x j pos} : PE X (.Constant (.str x) j pos) (tC (.str x)) := fun _ _ _ H _ I h => Calls.Constant_str ⟨.str x, H, I.tok _, ⟨_, rfl⟩, h⟩
def Gl (X : Cx) (x : Str) : Prop := X.env.kindOf x = some .globalImplicit
theorem ld_glob {E : Value → Shared → Prop} {pins : List (Addr × Obj)} {s : Shared} {σ : St} {H : Hp} {x : Str} {u : Value} {pos : Pos} {Q : Value → Shared → Prop} (I : Inv X pins σ H s) (hg : Gl X x) (hm : X.mg x = some u) (h : Q u s)
    (hd : (x == ("__debug__" : Str)) = false := by decide) : wpAny (model X.prog X.w) X.A (eval (.Name x pos) X.env) Q E s :=
  Calls.Name_function_global I.ok.kind hg (Calls.loadGlobal_global (by rw [I.ok.glob]; exact I.mod.glob.keeps I.bk) hm h) hd
theorem ld_blt {E : Value → Shared → Prop} {pins : List (Addr × Obj)} {s : Shared} {σ : St} {H : Hp} {x : Str} {u : Value} {pos : Pos} {Q : Value → Shared → Prop} (I : Inv X pins σ H s) (hg : Gl X x) (hm : X.mg x = none) (hv : bootBuiltins x = some u) (h : Q u s)
    (hn : x ≠ "__name__" := by decide) (hd : (x == ("__debug__" : Str)) = false := by decide) : wpAny (model X.prog X.w) X.A (eval (.Name x pos) X.env) Q E s := by
  obtain ⟨mb, h1, h2⟩ := I.mod.blt
  exact Calls.Name_function_global I.ok.kind hg (Calls.loadGlobal_builtin (by rw [I.ok.glob]; exact I.mod.glob.keeps I.bk) hm (by rw [I.ok.blt]; exact h1.keeps I.bk) ((h2 x hn).trans hv) h) hd
theorem pe_glob {x : Str} {v : V} {u : Value} {pos : Pos} (hg : Gl X x) (hm : X.mg x = some u) (r : RelV v u) (hd : (x == ("__debug__" : Str)) = false := by decide) : PE X (.Name x pos) (tC v) :=
  fun _ _ _ H _ I h => ld_glob I hg hm ⟨v, H, I, r, h⟩ hd
theorem pe_bltn {x : Str} {v : V} {u : Value} {pos : Pos} (hg : Gl X x) (hm : X.mg x = none) (hv : bootBuiltins x = some u) (r : RelV v u) (hn : x ≠ "__name__" := by decide) (hd : (x == ("__debug__" : Str)) = false := by decide) : PE X (.Name x pos) (tC v) :=
  fun _ _ _ H _ I h => ld_blt I hg hm hv ⟨v, H, I, r, h⟩ hn hd
variable {a b : Expr} {ta tb : TE} {pos : Pos}
def PC (X : Cx) (op : CmpOp) (a b : Expr) (t : TE) : Prop :=
  ∀ (pins : List (Addr × Obj)) (s : Shared) (σ : St) (H : Hp) (Q : VK), Inv X pins σ H s → t σ H Q →
    wpAny (model X.prog X.w) X.A (eval a X.env) (fun v s₁ => wpAny (model X.prog X.w) X.A (eval b X.env) (fun u s₂ => wpAny (model X.prog X.w) X.A (compareOp op v u) (EP X pins σ Q) X.xe s₂) X.xe s₁) X.xe s
theorem nobehind (b : Expr) {op : CmpOp} (h : op ≠ .In) (h2 : op ≠ .NotIn) : behindInMarks op b = false := by
  have e1 : (op == CmpOp.In) = false := by cases op <;> first | rfl | exact absurd rfl h
  have e2 : (op == CmpOp.NotIn) = false := by cases op <;> first | rfl | exact absurd rfl h2
  cases b <;> simp [behindInMarks, e1, e2]
def tIsN (ta : TE) : TE := fun σ H Q => ta σ H fun x H1 => Q (.bl (decide (x = .non))) H1
def tNotN (ta : TE) : TE := fun σ H Q => ta σ H fun x H1 => Q (.bl (!decide (x = .non))) H1
theorem RelV.none_iff {x : V} {v : Value} (r : RelV x v) : (v == Value.none) = decide (x = .non) := by
  cases x with
  | non => cases r; rfl
  | bl _ => cases r; rfl
  | int _ => obtain ⟨t, rfl⟩ := r; rfl
  | str _ => obtain ⟨t, rfl⟩ := r; rfl
  | byt _ => obtain ⟨t, rfl⟩ := r; rfl
  | flt _ => obtain ⟨t, rfl⟩ := r; rfl
  | ref _ => cases r; rfl
  | ty _ => cases r; rfl
theorem pc_isN {j pos'} (ha : PE X a ta) : PC X .Is a (.Constant .none j pos') (tIsN ta) := by
  intro pins s σ H Q I h
  refine thn (ha pins s σ H _ I h) fun v s1 ⟨x, H1, I1, r1, q1⟩ => ?_
  exact Constant_none (is_none_gen ⟨.bl _, H1, I1, by rw [r1.none_iff]; rfl, q1⟩)
theorem pc_notN {j pos'} (ha : PE X a ta) : PC X .IsNot a (.Constant .none j pos') (tNotN ta) := by
  intro pins s σ H Q I h
  refine thn (ha pins s σ H _ I h) fun v s1 ⟨x, H1, I1, r1, q1⟩ => ?_
  exact Constant_none (isnot_none_gen ⟨.bl _, H1, I1, by rw [r1.none_iff]; rfl, q1⟩)
def tB (t : TE) : TT := fun σ H Q => t σ H fun x H1 => ∃ c, x = .bl c ∧ Q c H1
theorem pt_cmp {op : CmpOp} {t : TE} (h : PC X op a b t) (h1 : behindInMarks op b = false := by first | exact nobehind _ (by decide) (by decide) | rfl) : PT X (.Compare a [op] [b] pos) (tB t) := by
  intro pins s σ H Q I hw
  refine wpAny_isTrue_Compare1 (thn (h pins s σ H _ I hw) fun v s1 h1 => thn h1 fun u s2 h2 => thn h2 fun c s3 ⟨x, H1, I1, r1, q1⟩ => ?_) h1
  obtain ⟨d, rfl, q⟩ := q1
  cases r1
  exact wpAny_truthy_bool ⟨H1, I1, q⟩
theorem pt_val {e : Expr} {t : TE} (h : PE X e t) (he : ∀ whole, isTrue e X.env whole = (do let v ← whole; standAt e.pos; holding [v] (truthy v)) := by intro _; rfl) : PT X e (tB t) := by
  intro pins s σ H Q I hw
  refine isTrue_plain (thn (h pins s σ H _ I hw) fun v s1 ⟨x, H1, I1, r1, q1⟩ => ?_) (he _)
  obtain ⟨d, rfl, q⟩ := q1
  cases r1
  exact wpAny_truthy_bool ⟨H1, I1, q⟩
variable {tA tB' : TT} {rest : List Expr}
def tAnd (t u : TT) : TT := fun σ H Q => t σ H fun c H1 => if c = true then u σ H1 Q else Q false H1
def tOr (t u : TT) : TT := fun σ H Q => t σ H fun c H1 => if c = true then Q true H1 else u σ H1 Q
def tNot (t : TT) : TT := fun σ H Q => t σ H fun c H1 => Q (!c) H1
theorem pw_and1 (ha : PT X a tA) : PW X (.BoolOp .And [a] pos) tA := by
  intro wh pins s σ H Q I h
  refine isTrue_and (thn (ha pins s σ H Q I h) fun c s1 e => ?_)
  cases c with
  | true => exact isTrue_and_nil e
  | false => exact e
theorem pw_or1 (ha : PT X a tA) : PW X (.BoolOp .Or [a] pos) tA := by
  intro wh pins s σ H Q I h
  refine isTrue_or (thn (ha pins s σ H Q I h) fun c s1 e => ?_)
  cases c with
  | false => exact isTrue_or_nil e
  | true => exact e
theorem pw_and (ha : PT X a tA) (hb : PW X (.BoolOp .And (b :: rest) pos) tB') : PW X (.BoolOp .And (a :: b :: rest) pos) (tAnd tA tB') := by
  intro wh pins s σ H Q I h
  refine isTrue_and (thn (ha pins s σ H _ I h) fun c s1 ⟨H1, I1, q1⟩ => ?_)
  cases c with
  | true => exact hb wh pins s1 σ H1 Q I1 q1
  | false => exact ⟨H1, I1, q1⟩
theorem pw_or (ha : PT X a tA) (hb : PW X (.BoolOp .Or (b :: rest) pos) tB') : PW X (.BoolOp .Or (a :: b :: rest) pos) (tOr tA tB') := by
  intro wh pins s σ H Q I h
  refine isTrue_or (thn (ha pins s σ H _ I h) fun c s1 ⟨H1, I1, q1⟩ => ?_)
  cases c with
  | true => exact ⟨H1, I1, q1⟩
  | false => exact hb wh pins s1 σ H1 Q I1 q1
theorem pt_not (ha : PT X a tA) : PT X (.UnaryOp .Not a pos) (tNot tA) := by
  intro pins s σ H Q I h
  exact isTrue_not (ha pins s σ H (fun c H1 => Q (!c) H1) I h)
def tOrV (ta tb : TE) : TE := fun σ H Q => ta σ H fun x H1 => ∃ c, x = .bl c ∧ if c = true then Q (.bl true) H1 else tb σ H1 Q
theorem pe_one {op} {t : TE} (h : PE X a t) : PE X (.BoolOp op [a] pos) t := fun pins s σ H Q I hw => BoolOp_one (h pins s σ H Q I hw)
theorem pe_or (ha : PE X a ta) (hb : PE X (.BoolOp .Or (b :: rest) pos) tb) : PE X (.BoolOp .Or (a :: b :: rest) pos) (tOrV ta tb) := by
  intro pins s σ H Q I h
  refine BoolOp_or (thn (ha pins s σ H _ I h) fun v s1 ⟨x, H1, I1, r1, q1⟩ => ?_)
  obtain ⟨c, rfl, q1⟩ := q1
  cases r1
  refine wpAny_truthy_bool ?_
  cases c with
  | false => exact hb pins s1 σ H1 Q I1 q1
  | true => exact ⟨.bl true, H1, I1, rfl, q1⟩
end
end L2
namespace L2
open PySem PySem.Spec PyProof.Rows
def SqL (K : PySem.W.Frag) (H : Hp) (a : Addr) (xs : List V) : Prop :=
  Rd H a (.lst xs) ∨
    ∃ (o : Obj) (its : Array Value) (n : Nat), K.lookup a = some o ∧ o.cls = .type "list" ∧ o.dict = none ∧ o.data = .seq its n ∧ its.size ≤ sizeLine ∧ Vals xs its.toList
def SqT (K : PySem.W.Frag) (H : Hp) (a : Addr) (xs : List V) : Prop :=
  Rd H a (.tup xs) ∨
    ∃ (o : Obj) (its : Array Value) (n : Nat), K.lookup a = some o ∧ o.cls = .type "tuple" ∧ o.data = .seq its n ∧ its.size ≤ sizeLine ∧ Vals xs its.toList
def absV : Value → Option V
  | .none => some .non
  | .bool b => some (.bl b)
  | .int i _ => some (.int i)
  | .str x _ => some (.str x)
  | .bytes b _ => some (.byt b)
  | .float b _ => some (.flt b)
  | .ref a => some (.ref a)
  | .type n => some (.ty n)
  | _ => none
theorem RelV.abs {x : V} {u : Value} (r : RelV x u) : absV u = some x := by
  cases x with
  | non => cases r; rfl
  | bl _ => cases r; rfl
  | int _ => obtain ⟨t, rfl⟩ := r; rfl
  | str _ => obtain ⟨t, rfl⟩ := r; rfl
  | byt _ => obtain ⟨t, rfl⟩ := r; rfl
  | flt _ => obtain ⟨t, rfl⟩ := r; rfl
  | ref _ => cases r; rfl
  | ty _ => cases r; rfl
theorem RelV.inj {x y : V} {u : Value} (r : RelV x u) (q : RelV y u) : x = y := Option.some.inj (r.abs.symm.trans q.abs)
theorem Vals.inj : ∀ {xs ys : List V} {us : List Value}, Vals xs us → Vals ys us → xs = ys
  | _, _, _, .nil, .nil => rfl
  | _, _, _, .cons r t, .cons r' t' => by rw [r.inj r', Vals.inj t t']
section
variable {X : Cx} {pins : List (Addr × Obj)} {σ : St} {H : Hp} {s : Shared} {a : Addr} {xs ys : List V}
theorem SqL.of {K : PySem.W.Frag} (h : H a = some (.lst xs)) : SqL K H a xs := .inl (.inl h)
theorem SqT.of {K : PySem.W.Frag} (h : H a = some (.tup xs)) : SqT K H a xs := .inl (.inl h)
theorem Inv.list (I : Inv X pins σ H s) (h : SqL X.K H a xs) : ∃ its : List Value, Vals xs its ∧ PlainL s.heap a its.toArray ∧ xs.length ≤ sizeLine := by
  rcases h with h | ⟨o, its, n, hk, hc, hd, hs, hz, r⟩
  · obtain ⟨z, its, n, r, e⟩ := h.ok I.hok
    exact ⟨its, r, ⟨_, n, e, rfl, rfl, rfl⟩, z⟩
  · refine ⟨its.toList, r, ⟨o, n, I.kIn a o hk, hc, hd, by simpa using hs⟩, ?_⟩
    have e := r.length
    simp only [Array.length_toList] at e
    omega
theorem Inv.tuple (I : Inv X pins σ H s) (h : SqT X.K H a xs) : ∃ its : List Value, Vals xs its ∧ IsTup s.heap a its.toArray ∧ xs.length ≤ sizeLine := by
  rcases h with h | ⟨o, its, n, hk, hc, hs, hz, r⟩
  · obtain ⟨z, its, r, p⟩ := h.ok I.hok
    exact ⟨its, r, p, z⟩
  · refine ⟨its.toList, r, ⟨o, I.kIn a o hk, hc, n, by simpa using hs⟩, ?_⟩
    have e := r.length
    simp only [Array.length_toList] at e
    omega
theorem Inv.list_inj (I : Inv X pins σ H s) (h : SqL X.K H a xs) (h' : SqL X.K H a ys) : xs = ys := by
  obtain ⟨its, r, ⟨o, n, e, _, _, d⟩, _⟩ := I.list h
  obtain ⟨its', r', ⟨o', n', e', _, _, d'⟩, _⟩ := I.list h'
  rw [e] at e'; cases e'
  rw [d] at d'
  injection d' with d1 _
  have : its = its' := by simpa using congrArg Array.toList d1
  subst this
  exact r.inj r'
theorem Inv.tuple_inj (I : Inv X pins σ H s) (h : SqT X.K H a xs) (h' : SqT X.K H a ys) : xs = ys := by
  obtain ⟨its, r, ⟨o, e, _, n, d⟩, _⟩ := I.tuple h
  obtain ⟨its', r', ⟨o', e', _, n', d'⟩, _⟩ := I.tuple h'
  rw [e] at e'; cases e'
  rw [d] at d'
  injection d' with d1 _
  have : its = its' := by simpa using congrArg Array.toList d1
  subst this
  exact r.inj r'
end
abbrev Cx.wish (X : Cx) (E : Value → Shared → Prop) : Cx := { X with xe := E }
abbrev Cx.nox (X : Cx) : Cx := X.wish fun _ _ => False
theorem Cx.Ok.wish {X : Cx} (ok : X.Ok) (E : Value → Shared → Prop) : (X.wish E).Ok :=
  ⟨ok.mod, ok.kind, ok.glob, ok.blt, ok.above, ok.inj, ok.has, ok.cab, ok.hd, ok.frames, ok.stk, ok.exf, ok.bs, ok.bsz, ok.noex, ok.exfs, ok.funs, ok.frf⟩
theorem Cx.Ok.unwish {X : Cx} {E : Value → Shared → Prop} (ok : (X.wish E).Ok) : X.Ok :=
  ⟨ok.mod, ok.kind, ok.glob, ok.blt, ok.above, ok.inj, ok.has, ok.cab, ok.hd, ok.frames, ok.stk, ok.exf, ok.bs, ok.bsz, ok.noex, ok.exfs, ok.funs, ok.frf⟩
section
variable {X : Cx} {pins : List (Addr × Obj)} {σ : St} {H : Hp} {s : Shared} {E : Value → Shared → Prop}
theorem Inv.wish (I : Inv X pins σ H s) (E : Value → Shared → Prop) : Inv (X.wish E) pins σ H s := ⟨I.ok.wish E, I.os, I.bare, I.base, I.loc, I.cell, I.free, I.freeC, I.pin, I.hok, I.len⟩
theorem Inv.unwish (I : Inv (X.wish E) pins σ H s) : Inv X pins σ H s := ⟨I.ok.unwish, I.os, I.bare, I.base, I.loc, I.cell, I.free, I.freeC, I.pin, I.hok, I.len⟩
theorem SP.unwish {D : Ends} {f : Flow} {s' : Shared} (h : SP (X.wish E) pins D f s') : SP X pins D f s' := by
  cases f with
  | next => obtain ⟨σ', H', I, q⟩ := h; exact ⟨σ', H', I.unwish, q⟩
  | brk => obtain ⟨σ', H', I, q⟩ := h; exact ⟨σ', H', I.unwish, q⟩
  | cont => obtain ⟨σ', H', I, q⟩ := h; exact ⟨σ', H', I.unwish, q⟩
  | ret u => obtain ⟨v, σ', H', I, r, q⟩ := h; exact ⟨v, σ', H', I.unwish, r, q⟩
theorem PSs.nox {st : List Stmt} {t : TS} (h : PSs X.nox st t) : PSs X st t := fun pins s σ H D I hw =>
  wpAny_mono (h pins s σ H D (I.wish _) hw) (fun _ _ q => q.unwish) fun _ _ z => False.elim z
end
section
variable {X : Cx} {st : Stmt} {rest : List Stmt} {t u : TS} {e : Expr} {te : TE} {pos : Pos}
def tNext : TS := fun D σ H => D.nx σ H
def tSeq (t u : TS) : TS := fun D σ H => t { D with nx := u D } σ H
theorem pss_nil : PSs X [] tNext := fun _ _ σ H _ I h => wpAny_execs_nil ⟨σ, H, I, h⟩
theorem pss_cons (h1 : PS X st t) (h2 : PSs X rest u) : PSs X (st :: rest) (tSeq t u) := by
  intro pins s σ H D I h
  refine wpAny_execs_cons (thn (h1 pins s σ H { D with nx := u D } I h) fun f s1 q => ?_)
  cases f with
  | next =>
    obtain ⟨σ', H', I', q⟩ := q
    exact h2 pins s1 σ' H' D I' q
  | ret v => exact q
  | brk => exact q
  | cont => exact q
theorem pss_one (h1 : PS X st t) : PSs X [st] t := by
  intro pins s σ H D I h
  refine wpAny_execs_cons (thn (h1 pins s σ H D I h) fun f s1 q => ?_)
  cases f with
  | next => exact wpAny_execs_nil q
  | ret v => exact q
  | brk => exact q
  | cont => exact q
theorem Inv.quiet {pins : List (Addr × Obj)} {σ : St} {H : Hp} {s : Shared} (I : Inv X pins σ H s) : interactive X.env = false := by simp [interactive, I.ok.kind]
def tDrop (te : TE) : TS := fun D σ H => te σ H fun _ H1 => D.nx σ H1
theorem ps_expr (he : PE X e te) (hs : swapsWith e none pos.line X.env = pure false := by rfl) : PS X (.Expr e pos) (tDrop te) := by
  intro pins s σ H D I h
  exact wpAny_Expr_any (thn (he pins s σ H _ I h) fun v s1 ⟨x, H1, I1, r1, q1⟩ => ⟨σ, H1, I1, q1⟩) I.quiet hs
def tRet (te : TE) : TS := fun D σ H => te σ H D.rt
theorem ps_ret (he : PE X e te) : PS X (.Return (some e) pos) (tRet te) := by
  intro pins s σ H D I h
  exact wpAny_Return_some (thn (he pins s σ H _ I h) fun v s1 ⟨x, H1, I1, r1, q1⟩ => ⟨x, σ, H1, I1, r1, q1⟩)
def tIfS (c : TT) (t u : TS) : TS := fun D σ H => c σ H fun b H1 => if b = true then t D σ H1 else u D σ H1
theorem ps_if {c : Expr} {a b : List Stmt} {tc : TT} (hc : PT X c tc) (ha : PSs X a t) (hb : PSs X b u) : PS X (.If c a b pos) (tIfS tc t u) := by
  intro pins s σ H D I h
  refine wpAny_If (thn (hc pins s σ H _ I h) fun d s1 ⟨H1, I1, q1⟩ => ?_)
  cases d with
  | true => exact ha pins s1 σ H1 D I1 q1
  | false => exact hb pins s1 σ H1 D I1 q1
end
abbrev TG := V → St → Hp → (St → Hp → Prop) → Prop
abbrev TGs := List V → St → Hp → (St → Hp → Prop) → Prop
def PG (X : Cx) (target : Expr) (t : TG) : Prop :=
  ∀ (pins : List (Addr × Obj)) (s : Shared) (σ : St) (H : Hp) (v : V) (u : Value) (Q : St → Hp → Prop), Inv X pins σ H s → RelV v u → t v σ H Q →
    wpAny (model X.prog X.w) X.A (assign target X.env u) (fun _ s' => ∃ σ' H', Inv X pins σ' H' s' ∧ Q σ' H') X.xe s
def PGs (X : Cx) (ts : List Expr) (t : TGs) : Prop :=
  ∀ (pins : List (Addr × Obj)) (s : Shared) (σ : St) (H : Hp) (vs : List V) (us : List Value) (Q : St → Hp → Prop), Inv X pins σ H s → Vals vs us → t vs σ H Q →
    wpAny (model X.prog X.w) X.A (assignInOrder ((assignEach ts X.env).map (·.2)) us) (fun _ s' => ∃ σ' H', Inv X pins σ' H' s' ∧ Q σ' H') X.xe s
abbrev TSet := V → V → V → Hp → (Hp → Prop) → Prop
def PSet (X : Cx) (t : TSet) : Prop :=
  ∀ (pins : List (Addr × Obj)) (s : Shared) (σ : St) (H : Hp) (o i v : V) (ov iv u : Value) (Q : Hp → Prop), Inv X pins σ H s → RelV o ov → RelV i iv → RelV v u → t o i v H Q →
    wpAny (model X.prog X.w) X.A (setItem ov iv u) (fun _ s' => ∃ H', Inv X pins σ H' s' ∧ Q H') X.xe s
section
variable {X : Cx} {pos : Pos}
def gName (i : Nat) : TG := fun v σ H Q => Q (σ.set i (some v)) H
theorem pg_name {i : Nat} {x : Str} (hN : X.N.Nodup) (hi : X.N[i]? = some x) (hx : Loc X.env.scope x) (hf : X.fn x = true ∨ X.env.scope.names.lookup x = some .local := by first | exact .inl rfl | exact .inr rfl | assumption) : PG X (.Name x pos) (gName i) := by
  intro pins s σ H v u Q I r h
  exact wpAny_assign_Name (store_ok I hN hi hx r (fun s' I' => ⟨_, H, I', h⟩) hf)
def gNil : TGs := fun vs σ H Q => vs = [] ∧ Q σ H
def gCons (t : TG) (u : TGs) : TGs := fun vs σ H Q => ∃ v r, vs = v :: r ∧ t v σ H fun σ' H' => u r σ' H' Q
theorem pgs_nil : PGs X [] gNil := by
  intro pins s σ H vs us Q I r h
  obtain ⟨e, h⟩ := h
  subst e
  cases r
  exact assignInOrder_nil ⟨σ, H, I, h⟩
theorem pgs_cons {e : Expr} {es : List Expr} {t : TG} {u : TGs} (h1 : PG X e t) (h2 : PGs X es u)
    (hs : (assignEach (e :: es) X.env).map (·.2) = assign e X.env :: (assignEach es X.env).map (·.2) := by rfl) : PGs X (e :: es) (gCons t u) := by
  intro pins s σ H vs us Q I r h
  obtain ⟨v, vr, e1, h⟩ := h
  subst e1
  cases r with
  | cons r rr =>
    rw [hs]
    refine assignInOrder_cons (thn (h1 pins s σ H _ _ _ I r h) fun _ s1 ⟨σ1, H1, I1, q1⟩ => ?_)
    exact h2 pins s1 σ1 H1 _ _ Q I1 rr q1
def gTup (K : PySem.W.Frag) (n : Nat) (t : TGs) : TG := fun v σ H Q => ∃ a xs, v = .ref a ∧ SqT K H a xs ∧ xs.length = n ∧ t xs σ H Q
theorem pg_tup {es : List Expr} {k : Nat} {t : TGs} {n : Nat} (hc : X.calm = true) (h : PGs X es t)
    (hn : (assignEach es X.env).length = n := by rfl) (hst : (assignEach es X.env).findIdx? (·.1) = none := by rfl) : PG X (.Tuple es k pos) (gTup X.K n t) := by
  intro pins s σ H v u Q I r hw
  obtain ⟨a, xs, e1, hq, hl, hw⟩ := hw
  subst e1
  cases r
  obtain ⟨its, rv, ht, hz⟩ := I.tuple hq
  refine assign_Tuple_tuple (I.ok.hd hc) ht (by simp [hn, ← hl, rv.length]) hst fun h' hx => ?_
  have I1 : Inv X pins σ H { s with heap := h' } := I.kept (t' := s.toks) fun b o e => hx b o (Nat.ne_of_lt (Heap.lt_size e)) e
  exact h pins _ σ H xs _ Q I1 (by simpa using rv) hw
def gSub (to ti : TE) (t : TSet) : TG := fun v σ H Q => to σ H fun o H1 => ti σ H1 fun i H2 => t o i v H2 fun H3 => Q σ H3
theorem pg_sub {o i : Expr} {to ti : TE} {t : TSet} (ho : PE X o to) (hi : PE X i ti) (hs : PSet X t)
    (ha : ∀ v, assign (.Subscript o i pos) X.env v = (do
      let ov ← holding [v] (eval o X.env)
      let iv ← holding [v, ov] (eval i X.env)
      standAt pos
      holding [v, ov, iv] (setItem ov iv v)
      release [v, ov, iv] []) := by intro _; rfl) : PG X (.Subscript o i pos) (gSub to ti t) := by
  intro pins s σ H v u Q I r h
  rw [ha]
  refine wpAny_bind (wpAny_holding (thn (ho pins s σ H _ I h) fun ov s1 ⟨x, H1, I1, r1, q1⟩ => ?_))
  refine wpAny_bind (wpAny_holding (thn (hi pins s1 σ H1 _ I1 q1) fun iv s2 ⟨y, H2, I2, r2, q2⟩ => ?_))
  refine wpAny_bind (wpAny_standAt (wpAny_bind (wpAny_holding (thn (hs pins s2 σ H2 x y v ov iv u _ I2 r1 r2 r q2) fun _ s3 ⟨H3, I3, q3⟩ => ?_))))
  exact wpAny_release ⟨σ, H3, I3, q3⟩
def tAsg (te : TE) (g : TG) : TS := fun D σ H => te σ H fun x H1 => g x σ H1 D.nx
theorem ps_asg {tg e : Expr} {te : TE} {g : TG} (he : PE X e te) (hg : PG X tg g) (hs : swapsWithSole [tg] e pos.line X.env = pure false := by rfl) (hw : swappedStores [tg] e X.env = pure none := by rfl)
    (h1 : (assignEach [tg] X.env).map (·.2) = [assign tg X.env] := by rfl) : PS X (.Assign [tg] e pos) (tAsg te g) := by
  intro pins s σ H D I h
  refine wpAny_Assign_stores (thn (he pins s σ H _ I h) fun v s1 ⟨x, H1, I1, r1, q1⟩ => ?_) hs hw
  rw [h1]
  exact thn (hg pins s1 σ H1 x v _ I1 r1 q1) fun _ s2 q => q
theorem ps_set {i : Nat} {x : Str} {e : Expr} {te : TE} {pos' : Pos} (hN : X.N.Nodup) (hi : X.N[i]? = some x) (hx : Loc X.env.scope x) (he : PE X e te) (hs : swapsWith e (some (.Name x pos')) pos.line X.env = pure false := by rfl) (hf : X.fn x = true ∨ X.env.scope.names.lookup x = some .local := by first | exact .inl rfl | exact .inr rfl | assumption) :
    PS X (.Assign [.Name x pos'] e pos) (tAsg te (gName i)) := by
  intro pins s σ H D I h
  refine wpAny_Assign_Name (thn (he pins s σ H _ I h) fun v s1 ⟨y, H1, I1, r1, q1⟩ => ?_) hs
  exact store_ok I1 hN hi hx r1 (fun s2 I2 => ⟨_, H1, I2, q1⟩) hf
end
section
variable {X : Cx} {pos : Pos}
def tWhile (c : TT) (tb : TS) : TS := fun D σ H => ∃ W : Nat → St → Hp → Prop, (∃ m, W m σ H) ∧ ∀ m σ H, W m σ H →
  c σ H fun b H1 => if b = true then ∃ N : St → Hp → Prop, (∀ σ' H', N σ' H' → ∃ m', m' < m ∧ W m' σ' H') ∧ tb { D with nx := N, ct := N, bk := D.nx } σ H1 else D.nx σ H1
theorem ps_while {c : Expr} {body : List Stmt} {tc : TT} {tb : TS} (hp : PassesOwn (model X.prog X.w) X.A X.env X.xe) (hc : PT X c tc) (hb : PSs X body tb) : PS X (.While c body [] pos) (tWhile tc tb) := by
  intro pins s σ H D I h
  obtain ⟨W, ⟨m0, w0⟩, turn⟩ := h
  refine wpAny_While (codeAny_whileLoop (fun n s' => ∃ σ' H', Inv X pins σ' H' s' ∧ W n σ' H') ?_ m0 ⟨σ, H, I, w0⟩)
  rintro n s1 ⟨σ1, H1, I1, w1⟩
  refine wpAny_passesOwn hp (thn (hc pins s1 σ1 H1 _ I1 (turn n σ1 H1 w1)) fun b s2 ⟨H2, I2, q2⟩ => ?_)
  cases b with
  | true =>
    obtain ⟨N, hN, q2⟩ := q2
    rw [if_pos rfl]
    refine wpAny_passesOwn hp (thn (hb pins s2 σ1 H2 _ I2 q2) fun f s3 q3 => ?_)
    cases f with
    | next =>
      obtain ⟨σ3, H3, I3, n3⟩ := q3
      obtain ⟨m', hm, w3⟩ := hN σ3 H3 n3
      exact ⟨m', hm, σ3, H3, I3, w3⟩
    | cont =>
      obtain ⟨σ3, H3, I3, n3⟩ := q3
      obtain ⟨m', hm, w3⟩ := hN σ3 H3 n3
      exact ⟨m', hm, σ3, H3, I3, w3⟩
    | brk => exact q3
    | ret v => exact q3
  | false =>
    rw [if_neg Bool.false_ne_true]
    exact wpAny_execs_nil ⟨σ1, H2, I2, q2⟩
end
structure It where
  go : Nat → Hp → Prop
  yld : Nat → Hp → V → Hp → Prop
  stop : Nat → Hp → Prop
def FpOk (X : Cx) (pins : List (Addr × Obj)) (H : Hp) (b : Addr) : Prop :=
  H b = none ∧ b ≠ X.env.locals ∧ b ∉ X.fs ∧ (b ∈ X.ex ∨ X.s₀.heap.objs.size ≤ b) ∧ (∀ x c, X.env.cells.lookup x = some c → c ≠ b) ∧ ∀ p ∈ X.pn ++ pins, p.1 ≠ b
theorem Inv.fpOk {X : Cx} {pins : List (Addr × Obj)} {σ : St} {H H' : Hp} {s : Shared} {b : Addr} (I : Inv X pins σ H s) (hb : s.heap.objs.size ≤ b) (hn : H' b = none) : FpOk X pins H' b := by
  refine ⟨hn, Nat.ne_of_gt (Nat.lt_of_lt_of_le I.lt hb), I.nofs hb, .inr (Nat.le_trans I.sz hb), fun x c e z => ?_, fun p hp z => ?_⟩
  · obtain ⟨v, q⟩ := I.cell x c e
    exact absurd (Nat.lt_of_lt_of_le q.lt (by rw [z]; exact hb)) (Nat.lt_irrefl _)
  · exact absurd (Nat.lt_of_lt_of_le (Heap.lt_size (I.pin p hp).1) (by rw [z]; exact hb)) (Nat.lt_irrefl _)
structure Turn (P : Program) (w : World) (K : PySem.W.Frag) (tg : Expr) (J : It) (fp : List Addr) (it : Addr) (tn : Nat → Heap → Prop) : Prop where
  mem : it ∈ fp
  obj : ∀ i h, tn i h → ∀ b ∈ fp, ∃ o, h.get? b = some o ∧ ∀ v, o.data ≠ .cell v
  keep : ∀ i h h', tn i h → (∀ b ∈ fp, ∀ o, h.get? b = some o → h'.get? b = some o) → tn i h'
  item : ∀ (X : Cx), X.prog = P → X.w = w → X.K = K → X.calm = true → ∀ (i : Nat) (pins : List (Addr × Obj)) (s : Shared) (σ : St) (H : Hp) (E : Value → Shared → Prop), Inv X pins σ H s → (∀ b ∈ fp, FpOk X pins H b) → tn i s.heap → J.go i H →
    wpAny (model P w) X.A (pyNext (.ref it)) (fun r s1 => ∃ u, r = some u ∧
      wpAny (model P w) X.A (letOwnedTupleGo tg (.ref it) u) (fun _ s2 => ∃ x H', Inv X pins σ H' s2 ∧ RelV x u ∧ J.yld i H x H' ∧ tn (i + 1) s2.heap ∧ ∀ b ∈ fp, H' b = none) E s1) E s
  done : ∀ (X : Cx), X.prog = P → X.w = w → X.K = K → X.calm = true → ∀ (i : Nat) (pins : List (Addr × Obj)) (s : Shared) (σ : St) (H : Hp) (E : Value → Shared → Prop), Inv X pins σ H s → (∀ b ∈ fp, FpOk X pins H b) → tn i s.heap → J.stop i H →
    wpAny (model P w) X.A (pyNext (.ref it)) (fun r s1 => r = none ∧ Inv X pins σ H s1) E s
  self : ∀ (A : Around) (i : Nat) (s : Shared) (Q : Value → Shared → Prop) (E : Value → Shared → Prop), tn i s.heap → Q (.ref it) s → wpAny (model P w) A (pyIter (.ref it)) Q E s
abbrev TI := St → Hp → (It → Hp → Prop) → Prop
def PIE (X : Cx) (pins : List (Addr × Obj)) (σ : St) (tg : Expr) (R : It → Hp → Prop) (itv : Value) (s2 : Shared) : Prop :=
  ∃ (it : Addr) (fp : List Addr) (tn : Nat → Heap → Prop) (J : It) (H' : Hp), itv = .ref it ∧ Inv X pins σ H' s2 ∧ Turn X.prog X.w X.K tg J fp it tn ∧ tn 0 s2.heap ∧ (∀ b ∈ fp, FpOk X pins H' b) ∧ R J H'
def PI (X : Cx) (tg iter : Expr) (wi : TI) : Prop :=
  ∀ (pins : List (Addr × Obj)) (s : Shared) (σ : St) (H : Hp) (R : It → Hp → Prop), Inv X pins σ H s → wi σ H R →
    wpAny (model X.prog X.w) X.A (eval iter X.env) (fun v s1 => wpAny (model X.prog X.w) X.A (pyIter v) (PIE X pins σ tg R) X.xe s1) X.xe s
theorem go_of {M : Model} {A : Around} {E : Value → Shared → Prop} {s : Shared} {tg : Expr} {it : Addr} {u : Value} {o : Obj} {n : String} {vs : Array Value} {Q : Unit → Shared → Prop} (ho : s.heap.get? it = some o) (hc : o.cls = .type n) (hd : o.data = .fields vs)
    (hn : ["enumerate", "zip", "dict_itemiterator", "dict_reverseitemiterator", "odict_iterator", "itertools.zip_longest", "itertools.pairwise"].contains n = false) (hQ : Q () s) : wpAny M A (letOwnedTupleGo tg (.ref it) u) Q E s := by
  unfold letOwnedTupleGo
  cases tg <;> first
    | exact wpAny_pure hQ
    | (cases u <;> first
        | exact wpAny_pure hQ
        | (refine wpAny_bind (wpAny_load ho ?_)
           rw [hc, hd]
           show wpAny M A (if (["enumerate", "zip", "dict_itemiterator", "dict_reverseitemiterator", "odict_iterator", "itertools.zip_longest", "itertools.pairwise"].contains n && vs[0]? == some (rawInt _)) = true then _ else _) Q E s
           rw [if_neg (by intro h; rw [hn, Bool.false_and] at h; cases h)]
           exact wpAny_pure hQ))
def Itl (K : PySem.W.Frag) (a : Addr) : It :=
  ⟨fun i H => ∃ xs x, SqL K H a xs ∧ xs[i]? = some x, fun i H x H' => H' = H ∧ ∀ xs, SqL K H a xs → xs[i]? = some x, fun i H => ∃ xs, SqL K H a xs ∧ xs.length ≤ i⟩
def Itt (K : PySem.W.Frag) (a : Addr) : It :=
  ⟨fun i H => ∃ xs x, SqT K H a xs ∧ xs[i]? = some x, fun i H x H' => H' = H ∧ ∀ xs, SqT K H a xs → xs[i]? = some x, fun i H => ∃ xs, SqT K H a xs ∧ xs.length ≤ i⟩
def Itr (lo : Int) (n : Nat) : It := ⟨fun i _ => i < n, fun i H x H' => H' = H ∧ x = .int (lo + i), fun i _ => n ≤ i⟩
theorem turn_list {P : Program} {w : World} {K : PySem.W.Frag} {tg : Expr} (a it : Addr) : Turn P w K tg (Itl K a) [it] it (fun i h => h.IsListIter it a i) where
  mem := by simp
  obj := fun i h st b hb => by
    have e : b = it := by simpa using hb
    subst e
    obtain ⟨o, e, c, d⟩ := st
    exact ⟨o, e, fun v z => by rw [d] at z; cases z⟩
  keep := fun i h h' st k => st.at fun o e => k it (by simp) o e
  item := by
    intro X hP hw hK hc i pins s σ H E I hf st hg
    subst hP hw hK
    obtain ⟨xs, x, hq, hx⟩ := hg
    obtain ⟨its, rv, p, hz⟩ := I.list hq
    obtain ⟨u, hu, ru⟩ := rv.get hx
    obtain ⟨f0, f1, f2, f3, f4, f5⟩ := hf it (by simp)
    refine wpAny_pyNext_list_item st p.isList (x := u) (by simpa using hu) fun h' st' sb => ?_
    have I1 : Inv X pins σ H { s with heap := h' } := I.turned (t' := s.toks) (fun b o hb e => (sb.2 b hb).trans e) f0 f1 f3 f4 f5
    obtain ⟨o, e, c, d⟩ := id st'
    exact ⟨u, rfl, go_of (s := { s with heap := h' }) e c d (by decide) ⟨x, H, I1, ru, ⟨rfl, fun ys hy => by rw [I.list_inj hy hq]; exact hx⟩, st', fun b hb => (hf b hb).1⟩⟩
  done := by
    intro X hP hw hK hc i pins s σ H E I hf st hg
    subst hP hw hK
    obtain ⟨xs, hq, hx⟩ := hg
    obtain ⟨its, rv, p, hz⟩ := I.list hq
    obtain ⟨f0, f1, f2, f3, f4, f5⟩ := hf it (by simp)
    have hl := rv.length
    exact wpAny_pyNext_list_end (I.ok.hd hc) st p.isList (by simp; omega) fun h' eb => ⟨rfl, I.turned (t' := s.toks) (fun b o hb e => eb b o hb e) f0 f1 f3 f4 f5⟩
  self := fun _ _ _ _ _ st h => wpAny_pyIter_listiter st h
theorem turn_tuple {P : Program} {w : World} {K : PySem.W.Frag} {tg : Expr} (a it : Addr) : Turn P w K tg (Itt K a) [it] it (fun i h => h.IsTupleIter it a i) where
  mem := by simp
  obj := fun i h st b hb => by
    have e : b = it := by simpa using hb
    subst e
    obtain ⟨o, e, c, d⟩ := st
    exact ⟨o, e, fun v z => by rw [d] at z; cases z⟩
  keep := fun i h h' st k => st.at fun o e => k it (by simp) o e
  item := by
    intro X hP hw hK hc i pins s σ H E I hf st hg
    subst hP hw hK
    obtain ⟨xs, x, hq, hx⟩ := hg
    obtain ⟨its, rv, p, hz⟩ := I.tuple hq
    obtain ⟨u, hu, ru⟩ := rv.get hx
    obtain ⟨f0, f1, f2, f3, f4, f5⟩ := hf it (by simp)
    refine wpAny_pyNext_tuple_item st (show s.heap.IsTuple a its.toArray from p) (x := u) (by simpa using hu) fun h' st' sb => ?_
    have I1 : Inv X pins σ H { s with heap := h' } := I.turned (t' := s.toks) (fun b o hb e => (sb.2 b hb).trans e) f0 f1 f3 f4 f5
    obtain ⟨o, e, c, d⟩ := id st'
    exact ⟨u, rfl, go_of (s := { s with heap := h' }) e c d (by decide) ⟨x, H, I1, ru, ⟨rfl, fun ys hy => by rw [I.tuple_inj hy hq]; exact hx⟩, st', fun b hb => (hf b hb).1⟩⟩
  done := by
    intro X hP hw hK hc i pins s σ H E I hf st hg
    subst hP hw hK
    obtain ⟨xs, hq, hx⟩ := hg
    obtain ⟨its, rv, p, hz⟩ := I.tuple hq
    obtain ⟨f0, f1, f2, f3, f4, f5⟩ := hf it (by simp)
    have hl := rv.length
    exact wpAny_pyNext_tuple_end (I.ok.hd hc) st (show s.heap.IsTuple a its.toArray from p) (by simp; omega) fun h' eb => ⟨rfl, I.turned (t' := s.toks) (fun b o hb e => eb b o hb e) f0 f1 f3 f4 f5⟩
  self := fun _ _ _ _ _ st h => wpAny_pyIter_tupleiter st h
theorem turn_range {P : Program} {w : World} {K : PySem.W.Frag} {tg : Expr} (it : Addr) (lo : Int) (n : Nat) : Turn P w K tg (Itr lo n) [it] it (fun i h => IsRangeIter h it (lo + (i : Nat) * 1) ((n : Int) - (i : Nat)) 1) where
  mem := by simp
  obj := fun i h st b hb => by
    have e : b = it := by simpa using hb
    subst e
    exact ⟨_, st, fun v z => by
      have z' : Data.fields _ = Data.cell v := z
      cases z'⟩
  keep := fun i h h' st k => k it (by simp) _ st
  item := by
    intro X hP hw hK hc i pins s σ H E I hf st hg
    subst hP hw hK
    obtain ⟨f0, f1, f2, f3, f4, f5⟩ := hf it (by simp)
    have W := Walks.range (prog := X.prog) (w := X.w) (I.ok.hd hc) it lo 1 n
    refine W.item i s _ _ hg st fun v h' tk hv st' kk => ?_
    obtain ⟨t, rfl⟩ := hv
    have I1 : Inv X pins σ H { s with heap := h', toks := tk } := I.turned (fun b o hb e => kk b o (by simpa using hb) e) f0 f1 f3 f4 f5
    refine ⟨_, rfl, go_of (s := { s with heap := h', toks := tk }) (n := "range_iterator") st' rfl rfl (by decide) ⟨.int (lo + i), H, I1, ⟨t, ?_⟩, ⟨rfl, rfl⟩, st', fun b hb => (hf b hb).1⟩⟩
    rw [Int.mul_one]
  done := by
    intro X hP hw hK hc i pins s σ H E I hf st hg
    subst hP hw hK
    obtain ⟨f0, f1, f2, f3, f4, f5⟩ := hf it (by simp)
    exact wpAny_pyNext_range_end (I.ok.hd hc) st (by have : n ≤ i := hg; omega) fun h' eb => ⟨rfl, I.turned (t' := s.toks) (fun b o hb e => eb b o hb e) f0 f1 f3 f4 f5⟩
  self := fun _ _ _ _ _ st h => wpAny_pyIter_rangeiter st h
end L2
namespace L2
open PySem PySem.Spec PyProof.Rows
section
variable {X : Cx} {tg : Expr}
def iList (K : PySem.W.Frag) (tl : TE) : TI := fun σ H R => tl σ H fun x H1 => ∃ a, x = .ref a ∧ (∃ xs, SqL K H1 a xs) ∧ R (Itl K a) H1
def iTup (K : PySem.W.Frag) (tl : TE) : TI := fun σ H R => tl σ H fun x H1 => ∃ a, x = .ref a ∧ (∃ xs, SqT K H1 a xs) ∧ R (Itt K a) H1
theorem pi_list {l : Expr} {tl : TE} (hl : PE X l tl) : PI X tg l (iList X.K tl) := by
  intro pins s σ H R I h
  refine thn (hl pins s σ H _ I h) fun v s1 ⟨x, H1, I1, r1, q1⟩ => ?_
  obtain ⟨a, e, ⟨xs, hq⟩, q⟩ := q1
  subst e
  cases r1
  obtain ⟨its, rv, p, hz⟩ := I1.list hq
  refine wpAny_pyIter_list p.isList ?_
  refine ⟨s1.heap.objs.size, [s1.heap.objs.size], _, _, H1, rfl, I1.kept (t' := s1.toks) fun b o e => Heap.get?_push_of_some _ e, turn_list a _, ⟨_, Heap.get?_push_size _ rfl, rfl, rfl⟩, fun b hb => ?_, q⟩
  have e : b = s1.heap.objs.size := by simpa using hb
  subst e
  exact I1.fpOk (Nat.le_refl _) (I1.hok.fresh (Nat.le_refl _))
theorem pi_tup {l : Expr} {tl : TE} (hl : PE X l tl) : PI X tg l (iTup X.K tl) := by
  intro pins s σ H R I h
  refine thn (hl pins s σ H _ I h) fun v s1 ⟨x, H1, I1, r1, q1⟩ => ?_
  obtain ⟨a, e, ⟨xs, hq⟩, q⟩ := q1
  subst e
  cases r1
  obtain ⟨its, rv, p, hz⟩ := I1.tuple hq
  refine wpAny_pyIter_tuple (show s1.heap.IsTuple a its.toArray from p) ?_
  refine ⟨s1.heap.objs.size, [s1.heap.objs.size], _, _, H1, rfl, I1.kept (t' := s1.toks) fun b o e => Heap.get?_push_of_some _ e, turn_tuple a _, ⟨_, Heap.get?_push_size _ rfl, rfl, rfl⟩, fun b hb => ?_, q⟩
  have e : b = s1.heap.objs.size := by simpa using hb
  subst e
  exact I1.fpOk (Nat.le_refl _) (I1.hok.fresh (Nat.le_refl _))
theorem range_it {pins : List (Addr × Obj)} {σ : St} {H : Hp} {s : Shared} {R : It → Hp → Prop} {E : Value → Shared → Prop} {lo hi : Int} {t u v : Tok} {tk : Nat} (I : Inv X pins σ H s) (h1 : -(2 ^ 62) ≤ lo) (h2 : lo < 2 ^ 62) (h3 : -(2 ^ 62) ≤ hi) (h4 : hi < 2 ^ 62)
    (q : R (Itr lo (hi - lo).toNat) H) : wpAny (model X.prog X.w) X.A (pyIter (.ref s.heap.objs.size)) (PIE X pins σ tg R) E { s with heap := s.heap.push { cls := .type "range", data := .fields #[.int lo t, .int hi u, .int 1 v] }, toks := tk } := by
  refine wpAny_pyIter_range (IsRange.new ..) (small_one h1 h2 h3 h4) ?_
  have I1 : Inv X pins σ H { s with heap := s.heap.push { cls := .type "range", data := .fields #[.int lo t, .int hi u, .int 1 v] }, toks := tk } := I.kept fun b o e => Heap.get?_push_of_some _ e
  refine ⟨(s.heap.push { cls := .type "range", data := .fields #[.int lo t, .int hi u, .int 1 v] }).objs.size, [(s.heap.push { cls := .type "range", data := .fields #[.int lo t, .int hi u, .int 1 v] }).objs.size], _, _, H, rfl,
    I1.kept (t' := tk) fun b o e => Heap.get?_push_of_some _ e, turn_range _ lo (hi - lo).toNat, ?_, fun b hb => ?_, q⟩
  · have e1 : lo + ((0 : Nat) : Int) * 1 = lo := by simp
    have e2 : (((hi - lo).toNat : Nat) : Int) - ((0 : Nat) : Int) = Builtin.Range.rangeSize lo hi 1 := by rw [rangeSize_one]; split <;> omega
    show IsRangeIter _ _ (lo + ((0 : Nat) : Int) * 1) ((((hi - lo).toNat : Nat) : Int) - ((0 : Nat) : Int)) 1
    rw [e1, e2]
    exact Heap.get?_push_size _ rfl
  · have e : b = (s.heap.push { cls := .type "range", data := .fields #[.int lo t, .int hi u, .int 1 v] }).objs.size := by simpa using hb
    subst e
    exact I1.fpOk (Nat.le_refl _) (I1.hok.fresh (Nat.le_refl _))
def iRng1 (ta : TA) : TI := fun σ H R => ta σ H fun vs H1 => ∃ j : Int, vs = [.int j] ∧ -(2 ^ 62) ≤ j ∧ j < 2 ^ 62 ∧ R (Itr 0 j.toNat) H1
theorem pi_range1 {a : Expr} {ta : TA} {p pos : Pos} (hg : Gl X "range") (hm : X.mg "range" = none) (ha : PA X [a] ta) (hs : starEach [a] X.env = [(false, eval a X.env)] := by rfl) : PI X tg (.Call (.Name "range" p) [a] [] pos) (iRng1 ta) := by
  intro pins s σ H R I h
  refine Call_ (ld_blt I hg hm boot_range (PyProof.Rows.callWith_type1 (thn (ha pos pins s σ H _ I h) fun us s1 ⟨vs, H1, I1, r1, q1⟩ => ?_) hs rfl))
  obtain ⟨j, e, q1, q2, q⟩ := q1
  subst e
  cases r1 with
  | cons r rr =>
    cases rr
    obtain ⟨t, rfl⟩ := r
    exact call_range_1 (range_it I1 (by omega) (by omega) q1 q2 (by simpa using q))
def tFor (wi : TI) (g : TG) (tb : TS) : TS := fun D σ H => wi σ H fun J H1 => ∃ W : Nat → Nat → St → Hp → Prop, (∃ m, W 0 m σ H1) ∧ ∀ i m σ H, W i m σ H →
  (J.stop i H ∧ D.nx σ H) ∨ (J.go i H ∧ ∃ N : St → Hp → Prop, (∀ σ' H', N σ' H' → ∃ m', m' < m ∧ W (i + 1) m' σ' H') ∧ ∀ x H', J.yld i H x H' → g x σ H' fun σ2 H2 => tb { D with nx := N, ct := N, bk := D.nx } σ2 H2)
def pinsAt (fp : List Addr) (h : Heap) : List (Addr × Obj) := fp.filterMap fun b => (h.get? b).map fun o => (b, o)
theorem mem_pinsAt {fp : List Addr} {h : Heap} {b : Addr} {o : Obj} (hb : b ∈ fp) (e : h.get? b = some o) : (b, o) ∈ pinsAt fp h := List.mem_filterMap.mpr ⟨b, hb, by rw [e]; rfl⟩
theorem of_pinsAt {fp : List Addr} {h : Heap} {p : Addr × Obj} (hp : p ∈ pinsAt fp h) : p.1 ∈ fp ∧ h.get? p.1 = some p.2 := by
  obtain ⟨b, hb, e⟩ := List.mem_filterMap.mp hp
  cases q : h.get? b with
  | none => rw [q] at e; cases e
  | some o =>
    rw [q] at e
    have e' : (b, o) = p := Option.some.inj e
    subst e'
    exact ⟨hb, q⟩
theorem Inv.pinned {pins : List (Addr × Obj)} {σ : St} {H : Hp} {s : Shared} {fp : List Addr} (I : Inv X pins σ H s) (hf : ∀ b ∈ fp, FpOk X pins H b) (ho : ∀ b ∈ fp, ∃ o, s.heap.get? b = some o ∧ ∀ v, o.data ≠ .cell v) : Inv X (pins ++ pinsAt fp s.heap) σ H s :=
  I.pins_of fun p hp => (List.mem_append.mp hp).elim (fun z => I.pin p (List.mem_append_right _ z)) fun z => by
    obtain ⟨hb, e⟩ := of_pinsAt z
    obtain ⟨f0, f1, f2, _⟩ := hf p.1 hb
    obtain ⟨o, e', d⟩ := ho p.1 hb
    rw [e] at e'; cases e'
    exact ⟨e, f0, f1, f2, d⟩
theorem Inv.unpinned {pins pl : List (Addr × Obj)} {σ : St} {H : Hp} {s : Shared} (I : Inv X (pins ++ pl) σ H s) : Inv X pins σ H s := I.pins_of fun p hp => I.pin p (List.mem_append_right _ (List.mem_append_left _ hp))
theorem ps_for {iter : Expr} {body : List Stmt} {wi : TI} {g : TG} {tb : TS} {pos : Pos} (hp : PassesOwn (model X.prog X.w) X.A X.env X.xe) (hc : X.calm = true) (hi : PI X tg iter wi) (hg : PG X tg g) (hb : PSs X body tb)
    (hs : ∀ x, foldedSetIterable iter X.env x = pure x := by intro _; rfl) : PS X (.For tg iter body [] pos) (tFor wi g tb) := by
  intro pins s σ H D I h
  refine wpAny_For (thn (hi pins s σ H _ I h) fun v s1 h1 => thn h1 fun itv s2 h2 => ?_) hs
  obtain ⟨it, fp, tn, J, H2, e, I2, T, st2, f2, W, ⟨m0, w0⟩, turn⟩ := h2
  subst e
  -- what stays true of the iterator's objects through the loop
  have stat : ∀ {H' : Hp}, (∀ b ∈ fp, H' b = none) → ∀ b ∈ fp, FpOk X pins H' b := fun hn b hb => ⟨hn b hb, (f2 b hb).2⟩
  refine codeAny_forLoop_any (fun n s' => ∃ i σ' H', Inv X pins σ' H' s' ∧ tn i s'.heap ∧ (∀ b ∈ fp, H' b = none) ∧ W i n σ' H') ?_ m0 ⟨0, σ, H2, I2, st2, fun b hb => (f2 b hb).1, w0⟩
  rintro n s3 ⟨i, σ3, H3, I3, st3, fr3, w3⟩
  rcases turn i n σ3 H3 w3 with ⟨stop, qn⟩ | ⟨go, N, hN, step⟩
  · refine wpAny_passesOwn hp (thn (T.done X rfl rfl rfl hc i pins s3 σ3 H3 X.xe I3 (stat fr3) st3 stop) fun r s4 ⟨hr, I4⟩ => ?_)
    subst hr
    exact wpAny_execs_nil ⟨σ3, H3, I4, qn⟩
  · refine wpAny_passesOwn hp (thn (T.item X rfl rfl rfl hc i pins s3 σ3 H3 X.xe I3 (stat fr3) st3 go) fun r s4 ⟨u, hr, h4⟩ => ?_)
    subst hr
    refine wpAny_passesOwn hp (thn h4 fun _ s5 ⟨x, H5, I5, r5, y5, st5, fr5⟩ => ?_)
    have I5' := I5.pinned (stat fr5) (T.obj _ _ st5)
    refine wpAny_passesOwn hp (thn (hg _ s5 σ3 H5 x u _ I5' r5 (step x H5 y5)) fun _ s6 ⟨σ6, H6, I6, q6⟩ => ?_)
    refine wpAny_passesOwn hp (thn (hb _ s6 σ6 H6 _ I6 q6) fun f s7 q7 => ?_)
    have again : ∀ {σ7 : St} {H7 : Hp}, Inv X (pins ++ pinsAt fp s5.heap) σ7 H7 s7 → N σ7 H7 → ∃ m, m < n ∧ ∃ i σ' H', Inv X pins σ' H' s7 ∧ tn i s7.heap ∧ (∀ b ∈ fp, H' b = none) ∧ W i m σ' H' := fun {σ7 H7} I7 n7 => by
      obtain ⟨m', hm, w7⟩ := hN σ7 H7 n7
      refine ⟨m', hm, i + 1, σ7, H7, I7.unpinned, T.keep _ _ _ st5 fun b hb o e => (I7.pin (b, o) (List.mem_append_right _ (List.mem_append_right _ (mem_pinsAt hb e)))).1, fun b hb => ?_, w7⟩
      obtain ⟨o, e, d⟩ := T.obj _ _ st5 b hb
      exact (I7.pin (b, o) (List.mem_append_right _ (List.mem_append_right _ (mem_pinsAt hb e)))).2.1
    cases f with
    | next => obtain ⟨σ7, H7, I7, n7⟩ := q7; exact again I7 n7
    | cont => obtain ⟨σ7, H7, I7, n7⟩ := q7; exact again I7 n7
    | brk => obtain ⟨σ7, H7, I7, q7⟩ := q7; exact ⟨σ7, H7, I7.unpinned, q7⟩
    | ret v => obtain ⟨x7, σ7, H7, I7, r7, q7⟩ := q7; exact ⟨x7, σ7, H7, I7.unpinned, r7, q7⟩
end
theorem for_list {K : PySem.W.Frag} {a : Addr} {xs : List V} {g : TG} {tb : TS} {D : Ends} {σ : St} {H : Hp} (Pv : Nat → St → Hp → Prop) (h0 : Pv 0 σ H) (hl : ∀ i σ H, i ≤ xs.length → Pv i σ H → SqL K H a xs)
    (hs : ∀ i x σ H, xs[i]? = some x → Pv i σ H → g x σ H fun σ2 H2 => tb { D with nx := Pv (i + 1), ct := Pv (i + 1), bk := D.nx } σ2 H2) (hd : ∀ σ H, Pv xs.length σ H → D.nx σ H) :
    ∃ W : Nat → Nat → St → Hp → Prop, (∃ m, W 0 m σ H) ∧ ∀ i m σ H, W i m σ H →
      ((Itl K a).stop i H ∧ D.nx σ H) ∨ ((Itl K a).go i H ∧ ∃ N : St → Hp → Prop, (∀ σ' H', N σ' H' → ∃ m', m' < m ∧ W (i + 1) m' σ' H') ∧ ∀ x H', (Itl K a).yld i H x H' → g x σ H' fun σ2 H2 => tb { D with nx := N, ct := N, bk := D.nx } σ2 H2) := by
  refine ⟨fun i m σ H => m = xs.length - i ∧ i ≤ xs.length ∧ Pv i σ H, ⟨xs.length, by simp, Nat.zero_le _, h0⟩, ?_⟩
  rintro i m σ H ⟨rfl, hi, p⟩
  have q := hl i σ H hi p
  by_cases hlt : i < xs.length
  · refine .inr ⟨⟨xs, xs[i], q, by simp [hlt]⟩, Pv (i + 1), fun σ' H' p' => ⟨xs.length - (i + 1), by omega, rfl, hlt, p'⟩, fun x H' y => ?_⟩
    obtain ⟨e, y⟩ := y
    subst e
    exact hs i x σ _ (y xs q) p
  · have e : i = xs.length := by omega
    subst e
    exact .inl ⟨⟨xs, q, Nat.le_refl _⟩, hd σ H p⟩
theorem for_tup {K : PySem.W.Frag} {a : Addr} {xs : List V} {g : TG} {tb : TS} {D : Ends} {σ : St} {H : Hp} (Pv : Nat → St → Hp → Prop) (h0 : Pv 0 σ H) (hl : ∀ i σ H, i ≤ xs.length → Pv i σ H → SqT K H a xs)
    (hs : ∀ i x σ H, xs[i]? = some x → Pv i σ H → g x σ H fun σ2 H2 => tb { D with nx := Pv (i + 1), ct := Pv (i + 1), bk := D.nx } σ2 H2) (hd : ∀ σ H, Pv xs.length σ H → D.nx σ H) :
    ∃ W : Nat → Nat → St → Hp → Prop, (∃ m, W 0 m σ H) ∧ ∀ i m σ H, W i m σ H →
      ((Itt K a).stop i H ∧ D.nx σ H) ∨ ((Itt K a).go i H ∧ ∃ N : St → Hp → Prop, (∀ σ' H', N σ' H' → ∃ m', m' < m ∧ W (i + 1) m' σ' H') ∧ ∀ x H', (Itt K a).yld i H x H' → g x σ H' fun σ2 H2 => tb { D with nx := N, ct := N, bk := D.nx } σ2 H2) := by
  refine ⟨fun i m σ H => m = xs.length - i ∧ i ≤ xs.length ∧ Pv i σ H, ⟨xs.length, by simp, Nat.zero_le _, h0⟩, ?_⟩
  rintro i m σ H ⟨rfl, hi, p⟩
  have q := hl i σ H hi p
  by_cases hlt : i < xs.length
  · refine .inr ⟨⟨xs, xs[i], q, by simp [hlt]⟩, Pv (i + 1), fun σ' H' p' => ⟨xs.length - (i + 1), by omega, rfl, hlt, p'⟩, fun x H' y => ?_⟩
    obtain ⟨e, y⟩ := y
    subst e
    exact hs i x σ _ (y xs q) p
  · have e : i = xs.length := by omega
    subst e
    exact .inl ⟨⟨xs, q, Nat.le_refl _⟩, hd σ H p⟩
theorem for_range {lo : Int} {n : Nat} {g : TG} {tb : TS} {D : Ends} {σ : St} {H : Hp} (Pv : Nat → St → Hp → Prop) (h0 : Pv 0 σ H)
    (hs : ∀ i σ H, i < n → Pv i σ H → g (.int (lo + i)) σ H fun σ2 H2 => tb { D with nx := Pv (i + 1), ct := Pv (i + 1), bk := D.nx } σ2 H2) (hd : ∀ σ H, Pv n σ H → D.nx σ H) :
    ∃ W : Nat → Nat → St → Hp → Prop, (∃ m, W 0 m σ H) ∧ ∀ i m σ H, W i m σ H →
      ((Itr lo n).stop i H ∧ D.nx σ H) ∨ ((Itr lo n).go i H ∧ ∃ N : St → Hp → Prop, (∀ σ' H', N σ' H' → ∃ m', m' < m ∧ W (i + 1) m' σ' H') ∧ ∀ x H', (Itr lo n).yld i H x H' → g x σ H' fun σ2 H2 => tb { D with nx := N, ct := N, bk := D.nx } σ2 H2) := by
  refine ⟨fun i m σ H => m = n - i ∧ i ≤ n ∧ Pv i σ H, ⟨n, by simp, Nat.zero_le _, h0⟩, ?_⟩
  rintro i m σ H ⟨rfl, hi, p⟩
  by_cases hlt : i < n
  · refine .inr ⟨hlt, Pv (i + 1), fun σ' H' p' => ⟨n - (i + 1), by omega, rfl, hlt, p'⟩, fun x H' y => ?_⟩
    obtain ⟨e, y⟩ := y
    subst e y
    exact hs i σ _ hlt p
  · have e : i = n := by omega
    subst e
    exact .inl ⟨Nat.le_refl _, hd σ H p⟩
theorem while_by {c : TT} {tb : TS} {D : Ends} {σ : St} {H : Hp} (Pv : St → Hp → Prop) (μ : St → Hp → Nat) (h0 : Pv σ H)
    (hs : ∀ σ H, Pv σ H → c σ H fun b H1 => if b = true then tb { D with nx := fun σ' H' => Pv σ' H' ∧ μ σ' H' < μ σ H, ct := fun σ' H' => Pv σ' H' ∧ μ σ' H' < μ σ H, bk := D.nx } σ H1 else D.nx σ H1)
    (mono : ∀ σ H Q Q', (∀ b H1, Q b H1 → Q' b H1) → c σ H Q → c σ H Q') : tWhile c tb D σ H := by
  refine ⟨fun m σ H => m = μ σ H ∧ Pv σ H, ⟨_, rfl, h0⟩, ?_⟩
  rintro m σ H ⟨rfl, p⟩
  refine mono σ H _ _ (fun b H1 q => ?_) (hs σ H p)
  cases b with
  | true => exact ⟨_, fun σ' H' ⟨p', l⟩ => ⟨_, l, rfl, p'⟩, q⟩
  | false => exact q
end L2
namespace L2
open PySem PySem.Spec PyProof.Rows
abbrev R2 := V → V → Hp → VK → Prop
def OpR (X : Cx) (f : Value → Value → Sem Value) (r : R2) : Prop :=
  ∀ (pins : List (Addr × Obj)) (s : Shared) (σ : St) (H : Hp) (x y : V) (v u : Value) (Q : VK), Inv X pins σ H s → RelV x v → RelV y u → r x y H Q →
    wpAny (model X.prog X.w) X.A (f v u) (EP X pins σ Q) X.xe s
def UnR (X : Cx) (f : Value → Sem Value) (r : V → Hp → VK → Prop) : Prop :=
  ∀ (pins : List (Addr × Obj)) (s : Shared) (σ : St) (H : Hp) (x : V) (v : Value) (Q : VK), Inv X pins σ H s → RelV x v → r x H Q →
    wpAny (model X.prog X.w) X.A (f v) (EP X pins σ Q) X.xe s
def CallR (X : Cx) (f : Value) (r : List V → Hp → VK → Prop) : Prop :=
  ∀ (pins : List (Addr × Obj)) (s : Shared) (σ : St) (H : Hp) (xs : List V) (us : List Value) (Q : VK), Inv X pins σ H s → Vals xs us → r xs H Q →
    wpAny (model X.prog X.w) X.A (call f us) (EP X pins σ Q) X.xe s
def TruR (X : Cx) (r : V → Hp → (Bool → Hp → Prop) → Prop) : Prop :=
  ∀ (pins : List (Addr × Obj)) (s : Shared) (σ : St) (H : Hp) (x : V) (v : Value) (Q : Bool → Hp → Prop), Inv X pins σ H s → RelV x v → r x H Q →
    wpAny (model X.prog X.w) X.A (truthy v) (TP X pins σ Q) X.xe s
def tOp (r : R2) (ta tb : TE) : TE := fun σ H Q => ta σ H fun x H1 => tb σ H1 fun y H2 => r x y H2 Q
def tUn (r : V → Hp → VK → Prop) (ta : TE) : TE := fun σ H Q => ta σ H fun x H1 => r x H1 Q
def rI (C : Int → Int → Prop) (g : Int → Int → V) : R2 := fun x y H Q => ∃ i j, x = .int i ∧ y = .int j ∧ C i j ∧ Q (g i j) H
def rI0 (g : Int → Int → V) : R2 := fun x y H Q => ∃ i j, x = .int i ∧ y = .int j ∧ Q (g i j) H
def rU (g : Int → V) : V → Hp → VK → Prop := fun x H Q => ∃ i, x = .int i ∧ Q (g i) H
section
variable {X : Cx} {a b c : Expr} {ta tb tc : TE} {pos : Pos}
theorem binT (ha : PE X a ta) (hb : PE X b tb) {pins : List (Addr × Obj)} {s : Shared} {σ : St} {H : Hp} {R : V → V → Hp → Prop} (I : Inv X pins σ H s)
    (h : ta σ H fun x H1 => tb σ H1 fun y H2 => R x y H2) {Q : Value → Shared → Prop} {f : Value → Value → Sem Value}
    (hf : ∀ v u s2 x y H2, Inv X pins σ H2 s2 → RelV x v → RelV y u → R x y H2 → wpAny (model X.prog X.w) X.A (f v u) Q X.xe s2) :
    wpAny (model X.prog X.w) X.A (eval a X.env) (fun v s₁ => wpAny (model X.prog X.w) X.A (eval b X.env) (fun u s₂ => wpAny (model X.prog X.w) X.A (f v u) Q X.xe s₂) X.xe s₁) X.xe s := by
  refine thn (ha pins s σ H _ I h) fun v s1 ⟨x, H1, I1, r1, q1⟩ => ?_
  refine thn (hb pins s1 σ H1 _ I1 q1) fun u s2 ⟨y, H2, I2, r2, q2⟩ => ?_
  exact hf v u s2 x y H2 I2 r1 r2 q2
theorem pe_op {op : Operator} {r : R2} (ho : OpR X (binaryOp op) r) (ha : PE X a ta) (hb : PE X b tb) : PE X (.BinOp a op b pos) (tOp r ta tb) := by
  intro pins s σ H Q I h
  exact wpAny_BinOp (binT ha hb I h fun v u s2 x y H2 I2 rx ry q => ho pins s2 σ H2 x y v u Q I2 rx ry q)
theorem pe_un {op : UnaryOp} {r : V → Hp → VK → Prop} (ho : UnR X (unaryOp op) r) (ha : PE X a ta) : PE X (.UnaryOp op a pos) (tUn r ta) := by
  intro pins s σ H Q I h
  exact UnaryOp_ (thn (ha pins s σ H _ I h) fun v s1 ⟨x, H1, I1, r1, q1⟩ => ho pins s1 σ H1 x v Q I1 r1 q1)
theorem opI {f : Value → Value → Sem Value} {C : Int → Int → Prop} {g : Int → Int → Int}
    (rule : ∀ (i j : Int) (t u : Tok) (s : Shared) (Q : Value → Shared → Prop) (E : Value → Shared → Prop), C i j → Q (.int (g i j) s.toks) { s with toks := s.toks + 1 } → wpAny (model X.prog X.w) X.A (f (.int i t) (.int j u)) Q E s) :
    OpR X f (rI C fun i j => .int (g i j)) := by
  intro pins s σ H x y v u Q I rx ry h
  obtain ⟨i, j, rfl, rfl, hc, q⟩ := h
  obtain ⟨t, rfl⟩ := rx
  obtain ⟨t', rfl⟩ := ry
  exact rule i j t t' s _ _ hc ⟨.int (g i j), H, I.tok _, ⟨_, rfl⟩, q⟩
theorem opI0 {f : Value → Value → Sem Value} {g : Int → Int → Int}
    (rule : ∀ (i j : Int) (t u : Tok) (s : Shared) (Q : Value → Shared → Prop) (E : Value → Shared → Prop), Q (.int (g i j) s.toks) { s with toks := s.toks + 1 } → wpAny (model X.prog X.w) X.A (f (.int i t) (.int j u)) Q E s) :
    OpR X f (rI0 fun i j => .int (g i j)) := by
  intro pins s σ H x y v u Q I rx ry h
  obtain ⟨i, j, rfl, rfl, q⟩ := h
  obtain ⟨t, rfl⟩ := rx
  obtain ⟨t', rfl⟩ := ry
  exact rule i j t t' s _ _ ⟨.int (g i j), H, I.tok _, ⟨_, rfl⟩, q⟩
theorem opB0 {f : Value → Value → Sem Value} {g : Int → Int → Bool}
    (rule : ∀ (i j : Int) (t u : Tok) (s : Shared) (Q : Value → Shared → Prop) (E : Value → Shared → Prop), Q (.bool (g i j)) s → wpAny (model X.prog X.w) X.A (f (.int i t) (.int j u)) Q E s) :
    OpR X f (rI0 fun i j => .bl (g i j)) := by
  intro pins s σ H x y v u Q I rx ry h
  obtain ⟨i, j, rfl, rfl, q⟩ := h
  obtain ⟨t, rfl⟩ := rx
  obtain ⟨t', rfl⟩ := ry
  exact rule i j t t' s _ _ ⟨.bl (g i j), H, I, rfl, q⟩
def CDiv (i j : Int) : Prop := 0 < j ∧ j < 1073741824
def CPow (i j : Int) : Prop := 0 ≤ j ∧ j ≤ 1000000 ∧ i.natAbs < 2 ^ 64
def CMul (i j : Int) : Prop := (-(2 ^ 64) < i ∧ i < 2 ^ 64) ∨ (-(2 ^ 64) < j ∧ j < 2 ^ 64)
theorem CMul.ok {i j : Int} (h : CMul i j) : IntMulOk i j := by
  rcases h with ⟨h1, h2⟩ | ⟨h1, h2⟩
  · exact .of_left (intBits_le_64 h1 h2)
  · exact .of_right (intBits_le_64 h1 h2)
theorem op_add : OpR X (binaryOp .Add) (rI0 fun i j => .int (i + j)) := opI0 fun _ _ _ _ _ _ _ q => add_int q
theorem op_sub : OpR X (binaryOp .Sub) (rI0 fun i j => .int (i - j)) := opI0 fun _ _ _ _ _ _ _ q => sub_int q
theorem op_mul : OpR X (binaryOp .Mult) (rI CMul fun i j => .int (i * j)) := opI fun _ _ _ _ _ _ _ hc q => mul_int q hc.ok
theorem op_fdiv : OpR X (binaryOp .FloorDiv) (rI CDiv fun i j => .int (i / j)) := opI fun i j _ _ _ _ _ hc q => by
  have h1 : (0 : Int) < j := hc.1
  have h2 : j < 1073741824 := hc.2
  exact floordiv_int (by omega) (by rw [Int.fdiv_eq_ediv_of_nonneg i (by omega)]; exact q) (.inl (PyProof.noPylong_small (by omega)))
theorem op_mod : OpR X (binaryOp .Mod) (rI (fun _ j => 0 < j) fun i j => .int (i % j)) := opI fun i j _ _ _ _ _ hc q => by
  have h1 : (0 : Int) < j := hc
  exact mod_int' (by omega) (by rw [Int.fmod_eq_emod_of_nonneg i (by omega)]; exact q)
theorem op_pow : OpR X (binaryOp .Pow) (rI CPow fun i j => .int (i ^ j.toNat)) := opI fun _ _ _ _ _ _ _ hc q => pow_int_small hc.1 hc.2.1 hc.2.2 q
theorem unI {f : Value → Sem Value} {g : Int → Int}
    (rule : ∀ (i : Int) (t : Tok) (s : Shared) (Q : Value → Shared → Prop) (E : Value → Shared → Prop), Q (.int (g i) s.toks) { s with toks := s.toks + 1 } → wpAny (model X.prog X.w) X.A (f (.int i t)) Q E s) :
    UnR X f (rU fun i => .int (g i)) := by
  intro pins s σ H x v Q I rx h
  obtain ⟨i, rfl, q⟩ := h
  obtain ⟨t, rfl⟩ := rx
  exact rule i t s _ _ ⟨.int (g i), H, I.tok _, ⟨_, rfl⟩, q⟩
theorem un_neg : UnR X (unaryOp .USub) (rU fun i => .int (-i)) := unI fun _ _ _ _ _ q => neg_int q
end
def scal : V → V → Bool
  | .non, .non => true | .non, .int _ => true | .int _, .non => true | .non, .bl _ => true | .bl _, .non => true | .non, .str _ => true | .str _, .non => true
  | .int _, .int _ => true | .bl _, .bl _ => true | .str _, .str _ => true | .byt _, .byt _ => true
  | .int _, .str _ => true | .str _, .int _ => true | .bl _, .str _ => true | .str _, .bl _ => true
  | _, _ => false
def rEq : R2 := fun x y H Q => scal x y = true ∧ Q (.bl (decide (x = y))) H
def rNe : R2 := fun x y H Q => scal x y = true ∧ Q (.bl (!decide (x = y))) H
theorem dec_int {i j : Int} : decide (V.int i = V.int j) = (i == j) := by
  rw [Bool.eq_iff_iff]
  simp
theorem dec_bl {i j : Bool} : decide (V.bl i = V.bl j) = (i == j) := by
  rw [Bool.eq_iff_iff]
  simp
theorem dec_str {i j : Str} : decide (V.str i = V.str j) = (i == j) := by
  rw [Bool.eq_iff_iff]
  simp
theorem dec_byt {i j : Array UInt8} : decide (V.byt i = V.byt j) = (i.toList == j.toList) := by
  rw [Bool.eq_iff_iff]
  cases i
  cases j
  simp
section
variable {X : Cx} {a b c : Expr} {ta tb tc : TE} {pos : Pos}
theorem fin_bl {pins : List (Addr × Obj)} {σ : St} {H : Hp} {s : Shared} {Q : VK} {k k' : Bool} (I : Inv X pins σ H s) (q : Q (.bl k) H) (e : k = k') : EP X pins σ Q (.bool k') s := by
  subst e
  exact ⟨.bl k, H, I, rfl, q⟩
theorem op_eq : OpR X (compareOp .Eq) rEq := by
  intro pins s σ H x y v u Q I rx ry h
  obtain ⟨hs, q⟩ := h
  cases x with
  | non =>
    cases rx
    cases y with
    | non => cases ry; exact PySem.EqNone.eq_none_none (fin_bl I q (by simp))
    | bl j => cases ry; exact PySem.EqNone.eq_none_bool (fin_bl I q (by simp))
    | int j => obtain ⟨t', rfl⟩ := ry; exact PySem.EqNone.eq_none_int (fin_bl I q (by simp))
    | str j => obtain ⟨t', rfl⟩ := ry; exact PySem.EqNone.eq_none_str (fin_bl I q (by simp))
    | _ => exact absurd (show false = true from hs) Bool.false_ne_true
  | bl i =>
    cases rx
    cases y with
    | non => cases ry; exact PySem.EqNone.eq_bool_none (fin_bl I q (by simp))
    | bl j => cases ry; exact eq_bool (fin_bl I q dec_bl)
    | str j => obtain ⟨t', rfl⟩ := ry; exact PySem.EqMixed.eq_bool_str (fin_bl I q (by simp))
    | _ => exact absurd (show false = true from hs) Bool.false_ne_true
  | int i =>
    obtain ⟨t, rfl⟩ := rx
    cases y with
    | non => cases ry; exact PySem.EqNone.eq_int_none (fin_bl I q (by simp))
    | int j => obtain ⟨t', rfl⟩ := ry; exact eq_int (fin_bl I q dec_int)
    | str j => obtain ⟨t', rfl⟩ := ry; exact PySem.EqMixed.eq_int_str (fin_bl I q (by simp))
    | _ => exact absurd (show false = true from hs) Bool.false_ne_true
  | str i =>
    obtain ⟨t, rfl⟩ := rx
    cases y with
    | non => cases ry; exact PySem.EqNone.eq_str_none (fin_bl I q (by simp))
    | bl j => cases ry; exact PySem.EqMixed.eq_str_bool (fin_bl I q (by simp))
    | int j => obtain ⟨t', rfl⟩ := ry; exact PySem.EqMixed.eq_str_int (fin_bl I q (by simp))
    | str j => obtain ⟨t', rfl⟩ := ry; exact eq_str (fin_bl I q dec_str)
    | _ => exact absurd (show false = true from hs) Bool.false_ne_true
  | byt i =>
    obtain ⟨t, rfl⟩ := rx
    cases y with
    | byt j => obtain ⟨t', rfl⟩ := ry; exact PySem.W.eq_bytes (fin_bl I q dec_byt)
    | _ => exact absurd (show false = true from hs) Bool.false_ne_true
  | _ => cases y <;> exact absurd (show false = true from hs) Bool.false_ne_true
theorem op_ne : OpR X (compareOp .NotEq) rNe := by
  intro pins s σ H x y v u Q I rx ry h
  obtain ⟨hs, q⟩ := h
  cases x with
  | non =>
    cases rx
    cases y with
    | non => cases ry; exact PySem.EqNone.ne_none_none (fin_bl I q (by simp))
    | bl j => cases ry; exact PySem.EqNone.ne_none_bool (fin_bl I q (by simp))
    | int j => obtain ⟨t', rfl⟩ := ry; exact PySem.EqNone.ne_none_int (fin_bl I q (by simp))
    | str j => obtain ⟨t', rfl⟩ := ry; exact PySem.EqNone.ne_none_str (fin_bl I q (by simp))
    | _ => exact absurd (show false = true from hs) Bool.false_ne_true
  | bl i =>
    cases rx
    cases y with
    | non => cases ry; exact PySem.EqNone.ne_bool_none (fin_bl I q (by simp))
    | bl j => cases ry; exact ne_bool (fin_bl I q (congrArg not dec_bl))
    | str j => obtain ⟨t', rfl⟩ := ry; exact PySem.EqMixed.ne_bool_str (fin_bl I q (by simp))
    | _ => exact absurd (show false = true from hs) Bool.false_ne_true
  | int i =>
    obtain ⟨t, rfl⟩ := rx
    cases y with
    | non => cases ry; exact PySem.EqNone.ne_int_none (fin_bl I q (by simp))
    | int j => obtain ⟨t', rfl⟩ := ry; exact ne_int (fin_bl I q (congrArg not dec_int))
    | str j => obtain ⟨t', rfl⟩ := ry; exact PySem.EqMixed.ne_int_str (fin_bl I q (by simp))
    | _ => exact absurd (show false = true from hs) Bool.false_ne_true
  | str i =>
    obtain ⟨t, rfl⟩ := rx
    cases y with
    | non => cases ry; exact PySem.EqNone.ne_str_none (fin_bl I q (by simp))
    | bl j => cases ry; exact PySem.EqMixed.ne_str_bool (fin_bl I q (by simp))
    | int j => obtain ⟨t', rfl⟩ := ry; exact PySem.EqMixed.ne_str_int (fin_bl I q (by simp))
    | str j => obtain ⟨t', rfl⟩ := ry; exact ne_str (fin_bl I q (congrArg not dec_str))
    | _ => exact absurd (show false = true from hs) Bool.false_ne_true
  | byt i =>
    obtain ⟨t, rfl⟩ := rx
    cases y with
    | byt j => obtain ⟨t', rfl⟩ := ry; exact PySem.W.ne_bytes (fin_bl I q (congrArg not dec_byt))
    | _ => exact absurd (show false = true from hs) Bool.false_ne_true
  | _ => cases y <;> exact absurd (show false = true from hs) Bool.false_ne_true
theorem op_lt : OpR X (compareOp .Lt) (rI0 fun i j => .bl (decide (i < j))) := opB0 fun _ _ _ _ _ _ _ q => lt_int q
theorem op_le : OpR X (compareOp .LtE) (rI0 fun i j => .bl (decide (i ≤ j))) := opB0 fun _ _ _ _ _ _ _ q => le_int q
theorem op_gt : OpR X (compareOp .Gt) (rI0 fun i j => .bl (decide (j < i))) := opB0 fun _ _ _ _ _ _ _ q => gt_int q
theorem op_ge : OpR X (compareOp .GtE) (rI0 fun i j => .bl (decide (j ≤ i))) := opB0 fun _ _ _ _ _ _ _ q => ge_int q
theorem op_in_str : OpR X (compareOp .In) (fun x y H Q => ∃ i j, x = .str i ∧ y = .str j ∧ Q (.bl (!(Builtin.Str.occurrences j i 0 j.length 1).isEmpty)) H) := by
  intro pins s σ H x y v u Q I rx ry h
  obtain ⟨i, j, rfl, rfl, q⟩ := h
  obtain ⟨t, rfl⟩ := rx
  obtain ⟨t', rfl⟩ := ry
  exact in_str (fin_bl I q rfl)
theorem nomark (b : Expr) {op : CmpOp} (h : op ≠ .In := by decide) (h2 : op ≠ .NotIn := by decide) : behindInMarks op b = false := by
  have e1 : (op == CmpOp.In) = false := by cases op <;> first | rfl | exact absurd rfl h
  have e2 : (op == CmpOp.NotIn) = false := by cases op <;> first | rfl | exact absurd rfl h2
  cases b <;> simp [behindInMarks, e1, e2]
theorem pe_cmpR {op : CmpOp} {r : R2} (ho : OpR X (compareOp op) r) (ha : PE X a ta) (hb : PE X b tb) (hm : behindInMarks op b = false) : PE X (.Compare a [op] [b] pos) (tOp r ta tb) := by
  intro pins s σ H Q I h
  exact wpAny_Compare1 (binT ha hb I h fun v u s2 x y H2 I2 rx ry q => ho pins s2 σ H2 x y v u Q I2 rx ry q) hm
def tTest (t : TE) : TT := fun σ H Q => t σ H fun x H' => ∃ k, x = .bl k ∧ Q k H'
theorem pt_cmpR {op : CmpOp} {r : R2} (ho : OpR X (compareOp op) r) (ha : PE X a ta) (hb : PE X b tb) (hm : behindInMarks op b = false) : PT X (.Compare a [op] [b] pos) (tTest (tOp r ta tb)) := by
  intro pins s σ H Q I h
  refine wpAny_isTrue_Compare1 (thn (ha pins s σ H _ I h) fun v s1 ⟨x, H1, I1, r1, q1⟩ => thn (hb pins s1 σ H1 _ I1 q1) fun u s2 ⟨y, H2, I2, r2, q2⟩ =>
    thn (ho pins s2 σ H2 x y v u _ I2 r1 r2 q2) fun c s3 ⟨z, H3, I3, r3, k, e, q3⟩ => ?_) hm
  subst e
  cases r3
  exact wpAny_truthy_bool ⟨H3, I3, q3⟩
def tChain (r r' : R2) (ta tb tc : TE) : TE := fun σ H Q => ta σ H fun x H1 => tb σ H1 fun y H2 => r x y H2 fun z H3 => ∃ k, z = .bl k ∧
  (if k = true then tc σ H3 fun w' H4 => r' y w' H4 Q else Q (.bl false) H3)
theorem pe_chain {op op' : CmpOp} {r r' : R2} (ho : OpR X (compareOp op) r) (ho' : OpR X (compareOp op') r') (ha : PE X a ta) (hb : PE X b tb) (hc : PE X c tc)
    (hm : lastMarks [op, op'] [b, c] = false := by with_unfolding_all rfl) : PE X (.Compare a [op, op'] [b, c] pos) (tChain r r' ta tb tc) := by
  intro pins s σ H Q I h
  refine Compare_chain (thn (ha pins s σ H _ I h) fun v s1 ⟨x, H1, I1, r1, q1⟩ => chain_link (thn (hb pins s1 σ H1 _ I1 q1) fun u s2 ⟨y, H2, I2, r2, q2⟩ =>
    thn (ho pins s2 σ H2 x y v u _ I2 r1 r2 q2) fun d s3 ⟨z, H3, I3, r3, k, e, q3⟩ => ?_)) hm
  subst e
  cases r3
  refine wpAny_truthy_bool ?_
  cases k with
  | false => exact ite_ff ⟨.bl false, H3, I3, rfl, q3⟩
  | true => exact ite_tt (chain_last (thn (hc pins s3 σ H3 _ I3 q3) fun w' s4 ⟨z', H4, I4, r4, q4⟩ => ho' pins s4 σ H4 y z' u w' Q I4 r2 r4 q4))
def TruV (K : PySem.W.Frag) (x : V) (H : Hp) (k : Bool) : Prop :=
  match x with
  | .non => k = false
  | .bl b => k = b
  | .int i => k = (i != 0)
  | .str y => y.length ≤ sizeLine ∧ k = ((y.length : Int) != 0)
  | .byt y => y.size ≤ sizeLine ∧ k = ((y.size : Int) != 0)
  | .ref p => (∃ xs, SqL K H p xs ∧ k = !xs.isEmpty) ∨ (∃ xs, SqT K H p xs ∧ k = !xs.isEmpty) ∨ ∃ kvs, H p = some (.dK kvs) ∧ k = !kvs.isEmpty
  | _ => False
theorem isEmpty_kv {κ : Type} {kvs : List (κ × V)} {vs : List (κ × Value)} (r : KV kvs vs) : (!vs.isEmpty) = !kvs.isEmpty := by
  cases r <;> rfl
theorem isEmpty_of {xs : List V} {its : List Value} (r : Vals xs its) : (!its.toArray.isEmpty) = !xs.isEmpty := by
  cases r <;> simp
theorem line63 : (sizeLine : Nat) < 2 ^ 63 := by rw [sizeLine_eq]; decide
theorem tru_ok : TruR X (fun x H Q => ∃ k, TruV X.K x H k ∧ Q k H) := by
  intro pins s σ H x v Q I rx h
  obtain ⟨k, e, q⟩ := h
  have hl := line63
  have hs : sizeLine = 16777216 := sizeLine_eq
  cases x with
  | non =>
    cases rx
    have e' : k = false := e
    subst e'
    exact truthy_none ⟨H, I, q⟩
  | bl b =>
    cases rx
    have e' : k = b := e
    subst e'
    exact wpAny_truthy_bool ⟨H, I, q⟩
  | int i =>
    obtain ⟨t, rfl⟩ := rx
    have e' : k = (i != 0) := e
    subst e'
    exact PySem.P.truthy_int ⟨H, I, q⟩
  | str y =>
    obtain ⟨t, rfl⟩ := rx
    obtain ⟨hy, e'⟩ : y.length ≤ sizeLine ∧ k = ((y.length : Int) != 0) := e
    subst e'
    exact PySem.P.truthy_str (by omega) ⟨H, I.tok _, q⟩
  | byt y =>
    obtain ⟨t, rfl⟩ := rx
    obtain ⟨hy, e'⟩ : y.size ≤ sizeLine ∧ k = ((y.size : Int) != 0) := e
    subst e'
    exact PySem.W.truthy_bytes (by omega) ⟨H, I.tok _, q⟩
  | ref p =>
    cases rx
    have e' : (∃ xs, SqL X.K H p xs ∧ k = !xs.isEmpty) ∨ (∃ xs, SqT X.K H p xs ∧ k = !xs.isEmpty) ∨ ∃ kvs, H p = some (.dK kvs) ∧ k = !kvs.isEmpty := e
    rcases e' with ⟨xs, hx, e'⟩ | ⟨xs, hx, e'⟩ | ⟨kvs, hx, e'⟩
    · subst e'
      obtain ⟨its, r, pl, hz⟩ := I.list hx
      have hlen := r.length
      exact wpAny_truthy_list pl.isList (by simp only [List.size_toArray]; omega) ⟨H, I.tok _, by rw [isEmpty_of r]; exact q⟩
    · subst e'
      obtain ⟨its, r, pl, hz⟩ := I.tuple hx
      have hlen := r.length
      exact truthy_tuple pl (by simp only [List.size_toArray]; omega) ⟨H, I.tok _, by rw [isEmpty_of r]; exact q⟩
    · subst e'
      obtain ⟨hz, hS, vs, r, m⟩ : kvs.length ≤ sizeLine ∧ (p == sysModules) = false ∧ ∃ vs, KV kvs vs ∧ s.heap.DictOf (mixKind X.prog X.w) p vs := I.hok p _ hx
      have hlen : kvs.length = vs.length := Paired.length r
      exact wpAny_truthy_dict hS m (by omega) ⟨H, I.tok _, by rw [isEmpty_kv r]; exact q⟩
  | _ => exact (show False from e).elim
theorem pt_truth (ha : PE X a ta) (he : ∀ whole, isTrue a X.env whole = (do let v ← whole; standAt a.pos; holding [v] (truthy v))) :
    PT X a (fun σ H Q => ta σ H fun x H' => ∃ k, TruV X.K x H' k ∧ Q k H') := by
  intro pins s σ H Q I h
  exact isTrue_plain (thn (ha pins s σ H _ I h) fun v s1 ⟨x, H1, I1, r1, q1⟩ => tru_ok pins s1 σ H1 x v Q I1 r1 q1) (he _)
theorem op_add_str : OpR X (binaryOp .Add) (fun x y H Q => ∃ i j, x = .str i ∧ y = .str j ∧ i.length + j.length ≤ sizeLine ∧ Q (.str (i ++ j)) H) := by
  intro pins s σ H x y v u Q I rx ry h
  obtain ⟨i, j, rfl, rfl, hz, q⟩ := h
  obtain ⟨t, rfl⟩ := rx
  obtain ⟨t', rfl⟩ := ry
  exact add_str (fun t' tk => ⟨.str (i ++ j), H, I.tok _, ⟨_, rfl⟩, q⟩) hz
theorem vals1 {x : V} {us : List Value} (r : Vals [x] us) : ∃ u, us = [u] ∧ RelV x u := by
  cases r with
  | cons r1 r2 => cases r2; exact ⟨_, rfl, r1⟩
theorem vals2 {x y : V} {us : List Value} (r : Vals [x, y] us) : ∃ u w', us = [u, w'] ∧ RelV x u ∧ RelV y w' := by
  cases r with
  | cons r1 r2 =>
    cases r2 with
    | cons r3 r4 => cases r4; exact ⟨_, _, rfl, r1, r3⟩
theorem call_min2 (hc : X.calm = true) : CallR X (.builtin "min") (fun xs H Q => ∃ i j, xs = [.int i, .int j] ∧ Q (.int (if j < i then j else i)) H) := by
  intro pins s σ H xs us Q I r h
  obtain ⟨i, j, rfl, q⟩ := h
  obtain ⟨u, w', rfl, ⟨t, rfl⟩, ⟨t', rfl⟩⟩ := vals2 r
  refine min_two_ints (I.ok.hd hc) fun h' tk k => ⟨_, H, I.kept k, ?_, q⟩
  by_cases hj : j < i
  · rw [if_pos hj, if_pos hj]; exact ⟨_, rfl⟩
  · rw [if_neg hj, if_neg hj]; exact ⟨_, rfl⟩
theorem call_int1 : CallR X (.type "int") (fun xs H Q => (∃ i, xs = [.int i] ∧ Q (.int i) H) ∨ ∃ k, xs = [.bl k] ∧ Q (.int (if k then 1 else 0)) H) := by
  intro pins s σ H xs us Q I r h
  rcases h with ⟨i, rfl, q⟩ | ⟨k, rfl, q⟩
  · obtain ⟨u, rfl, t, rfl⟩ := vals1 r
    exact call_int_int ⟨.int i, H, I, ⟨_, rfl⟩, q⟩
  · obtain ⟨u, rfl, r1⟩ := vals1 r
    cases r1
    exact call_int_bool ⟨.int (if k then 1 else 0), H, I.tok _, ⟨_, rfl⟩, q⟩
end
end L2
namespace L2
open PySem PySem.Spec PyProof.Rows
structure ObjM (h : Heap) (x dx C : Addr) (mA : Str → Option Value) : Prop where
  obj : h.get? x = some (PySem.W.instObj C dx)
  ns : h.Ns1 dx mA
  ne : dx ≠ x
theorem lookIn_ns {h : Heap} {dx : Addr} {mA : Str → Option Value} (n : h.Ns1 dx mA) : ∃ od, h.get? dx = some od ∧ ∀ name, PySem.W.lookIn name od = some (mA name) := by
  obtain ⟨o, es, ep, ho, hd, hk, _, hm⟩ := n
  refine ⟨o, ho, fun name => ?_⟩
  have e := hm name
  unfold nsFind findBy at e
  rw [← Array.find?_toList] at e
  unfold PySem.W.lookIn
  rw [hd]
  dsimp only
  split
  · rename_i y q
    rw [q] at e
    exact congrArg some e
  · rename_i q
    rw [q] at e
    have a : es.toList.any (·.refKey) = false := by
      rw [List.any_eq_false]
      intro y hy
      obtain ⟨z, t, hkey⟩ := hk y (Array.mem_toList_iff.mp hy)
      simp [DictEntry.refKey, hkey]
    have a' : ¬ es.toList.any (·.refKey) = true := by rw [a]; exact Bool.false_ne_true
    rw [if_neg a']
    exact congrArg some e
theorem ObjM.look {h : Heap} {x dx C : Addr} {mA : Str → Option Value} (I : ObjM h x dx C mA) : ∃ od, PySem.W.InstAt h x (PySem.W.instObj C dx) C (some od) ∧ ∀ name, PySem.W.lookIn name od = some (mA name) :=
  let ⟨od, ho, hl⟩ := lookIn_ns I.ns
  ⟨od, ⟨I.obj, rfl, rfl, ho⟩, hl⟩
section
variable {prog : Program} {w : World} {A : Around} {E : Value → Shared → Prop} {s : Shared} {K : PySem.W.Frag} {x dx C f : Addr} {mA : Str → Option Value} {name : Str} {v : Value}
end
theorem RelO.some_of {v : V} {o : Option Value} (r : RelO (some v) o) : ∃ u, o = some u ∧ RelV v u := by
  cases o with
  | none => exact (show False from r).elim
  | some u => exact ⟨u, rfl, r⟩
section
variable {P : Program} {w : World} {H H' : Hp} {h h' : Heap} {a C dx : Addr} {fs fs' : List (Str × V)}
theorem ins_get (hok : HOk P w H h) (e : H a = some (.ins C dx fs)) : ∃ mA, ObjM h a dx C mA ∧ (∀ f, RelO (fs.lookup f) (mA f)) ∧ PySem.Within mA (fs.map (·.1)) ∧ fs.length ≤ 1000 ∧ H dx = some (.own a) := by
  obtain ⟨d, z, ne, ob, mA, n, r, q⟩ := (show ObjOk P w H h a (.ins C dx fs) from hok a _ e)
  exact ⟨mA, ⟨ob, n, ne⟩, r, q, z, d⟩
end
structure Cls (K : PySem.W.Frag) (C : Addr) : Prop where
  pg : PySem.W.plainGet K C Str.empty = true
  hd : PySem.W.hasDictIn K C = true
  po : PySem.W.plainOver K C = true
  sa : PySem.W.findIn K (.ref C) "__setattr__" = some (some (.builtin "object.__setattr__"))
theorem Cls.get {K : PySem.W.Frag} {C : Addr} (c : Cls K C) (f : Str) : PySem.W.plainGet K C f = true := c.pg
section
variable {X : Cx} {pins : List (Addr × Obj)} {σ : St} {H : Hp} {s : Shared} {a C dx : Addr} {fs : List (Str × V)} {f : Str} {v : V} {A : Around} {E : Value → Shared → Prop}
end
section
variable {X : Cx} {o e value : Expr} {f : Str} {pos pos' tpos : Pos} {ta tv : TE}
end
section
variable {X : Cx} {pins : List (Addr × Obj)} {σ : St} {H : Hp} {s : Shared} {A : Around} {E : Value → Shared → Prop} {Q : Value → Shared → Prop} {c : Value} {b : Bool}
inductive TyOf (K : PySem.W.Frag) (H : Hp) : V → Value → Prop where
  | non : TyOf K H .non (.type "NoneType")
  | bl (x : Bool) : TyOf K H (.bl x) (.type "bool")
  | int (i : Int) : TyOf K H (.int i) (.type "int")
  | str (x : Str) : TyOf K H (.str x) (.type "str")
  | flt (x : UInt64) : TyOf K H (.flt x) (.type "float")
  | lst {a : Addr} {xs : List V} (e : H a = some (.lst xs)) : TyOf K H (.ref a) (.type "list")
  | frz {a : Addr} {o : Obj} {xs : List V} (e : H a = some (.frz o (.lst xs))) : TyOf K H (.ref a) (.type "list")
  | tup {a : Addr} {xs : List V} (e : H a = some (.tup xs)) : TyOf K H (.ref a) (.type "tuple")
  | dK {a : Addr} {kvs : List (Key × V)} (e : H a = some (.dK kvs)) : TyOf K H (.ref a) (.type "dict")
  | dT {a : Addr} {kvs : List (List Key × V)} (e : H a = some (.dT kvs)) : TyOf K H (.ref a) (.type "dict")
  | ins {a C dx : Addr} {fs : List (Str × V)} (e : H a = some (.ins C dx fs)) (cl : Cls K C) (ha : PySem.W.findIn K (.ref C) "__class__" = some (some (.builtin "object.__class__")))
      (hn : PySem.W.specialIn K (.builtin "object.__class__") "__get__" = some (some (.builtin "getset_descriptor.__get__"))) (htk : PySem.W.takesIn K (.builtin "object.__class__") = some true)
      (hm : PySem.W.mroIn K C (.type "object") = some true) : TyOf K H (.ref a) (.ref C)
theorem isinst_ok {x : V} {u t : Value} (I : Inv X pins σ H s) (rx : RelV x u) (ty : TyOf X.K H x t) (e : PySem.W.kitOne X.K t c = some b) (h : ∀ tk, Q (.bool b) { s with toks := tk }) :
    wpAny (model X.prog X.w) A (call (.builtin "isinstance") [u, c]) Q E s := by
  cases ty with
  | non => cases (show u = Value.none from rx); exact PySem.W.kia_one PySem.W.kitx_none I.kIn True.intro e (fun z => nomatch z) h
  | bl y => cases (show u = Value.bool y from rx); exact PySem.W.kia_one PySem.W.kitx_bool I.kIn True.intro e (fun z => nomatch z) h
  | int i => obtain ⟨t, q⟩ := (show ∃ t, u = Value.int i t from rx); cases q; exact PySem.W.kia_one PySem.W.kitx_int I.kIn True.intro e (fun z => nomatch z) h
  | str y => obtain ⟨t, q⟩ := (show ∃ t, u = Value.str y t from rx); cases q; exact PySem.W.kia_one PySem.W.kitx_str I.kIn True.intro e (fun z => nomatch z) h
  | flt y => obtain ⟨t, q⟩ := (show ∃ t, u = Value.float y t from rx); cases q; exact PySem.W.kia_one PySem.W.kitx_float I.kIn True.intro e (fun z => nomatch z) h
  | @lst a xs ea =>
    cases (show u = Value.ref a from rx)
    obtain ⟨_, _, n, _, h1⟩ := (show ObjOk X.prog X.w H s.heap a (.lst xs) from I.hok a _ ea)
    exact PySem.W.kia_one PySem.W.kitx_list I.kIn ⟨_, h1, rfl⟩ e (fun z => nomatch z) h
  | @frz a ob xs ea =>
    cases (show u = Value.ref a from rx)
    obtain ⟨_, _, _, n, _, h1⟩ := (show ObjOk X.prog X.w H s.heap a (.frz ob (.lst xs)) from I.hok a _ ea)
    exact PySem.W.kia_one PySem.W.kitx_list I.kIn ⟨_, h1, rfl⟩ e (fun z => nomatch z) h
  | @tup a xs ea =>
    cases (show u = Value.ref a from rx)
    obtain ⟨_, _, _, p⟩ := (show ObjOk X.prog X.w H s.heap a (.tup xs) from I.hok a _ ea)
    obtain ⟨o, h1, h2, _⟩ := p
    exact PySem.W.kia_one PySem.W.kitx_tuple I.kIn ⟨o, h1, h2⟩ e (fun z => nomatch z) h
  | @dK a kvs ea =>
    cases (show u = Value.ref a from rx)
    obtain ⟨_, _, vs, _, p⟩ := (show ObjOk X.prog X.w H s.heap a (.dK kvs) from I.hok a _ ea)
    obtain ⟨o, es, ep, h1, h2, _⟩ := p
    exact PySem.W.kia_one PySem.W.kitx_dict I.kIn ⟨o, h1, h2.1⟩ e (fun z => nomatch z) h
  | @dT a kvs ea =>
    cases (show u = Value.ref a from rx)
    obtain ⟨_, _, xs, _, o, es, ep, h1, h2, _⟩ := (show ObjOk X.prog X.w H s.heap a (.dT kvs) from I.hok a _ ea)
    exact PySem.W.kia_one PySem.W.kitx_dict I.kIn ⟨o, h1, h2.1⟩ e (fun z => nomatch z) h
  | @ins a C dx fs ea cl ha hn htk hm =>
    cases (show u = Value.ref a from rx)
    obtain ⟨mA, O, _⟩ := ins_get I.hok ea
    obtain ⟨od, J, _⟩ := O.look
    exact PySem.W.kia_one (PySem.W.kitx_own (cl.get _) cl.hd ha hn htk hm) I.kIn J e (fun z => nomatch z) h
end
end L2
namespace L2
open PySem PySem.Spec PyProof.Rows
structure Room (k : Nat) (A : Around) : Prop where
  hd : A.handled = none
  dp : A.depth + 3 * k + 5 < recursionLimit
  un : A.units + 16 * k + 200 < cLine
theorem Room.mono {j k : Nat} {A : Around} (r : Room k A) (h : j ≤ k) : Room j A := ⟨r.hd, by have := r.dp; omega, by have := r.un; omega⟩
theorem Room.deeper {k : Nat} {A : Around} (r : Room (k + 1) A) (env : Env) : Room k (A.deeper env) :=
  ⟨r.hd, by have := r.dp; show A.depth + 1 + 3 * k + 5 < _; omega, by have := r.un; show A.units + 3 + 16 * k + 200 < _; omega⟩
theorem Room.in1 {k : Nat} {A : Around} (r : Room (k + 1) A) : Room k A.in1 :=
  ⟨r.hd, by have := r.dp; show A.depth + 3 * k + 5 < _; omega, by have := r.un; show A.units + 1 + 16 * k + 200 < _; omega⟩
theorem Room.depth {k : Nat} {A : Around} (r : Room k A) : A.depth < recursionLimit := by have := r.dp; omega
theorem Room.units0 {k : Nat} {A : Around} (r : Room k A) : A.units < cLine := by have := r.un; omega
def tNil : TA := fun _ H Q => Q [] H
def tCons (ta : TE) (tr : TA) : TA := fun σ H Q => ta σ H fun x H1 => tr σ H1 fun xs H2 => Q (x :: xs) H2
section
variable {X : Cx} {e : Expr} {es : List Expr} {te : TE} {t : TA} {pos : Pos}
theorem pa_nil : PA X [] tNil := fun _ _ _ _ H Q I h => Calls.spliced_nil ⟨[], H, I, .nil, h⟩
theorem pa_cons (ha : PE X e te) (hr : PA X es t) (hs : starEach (e :: es) X.env = (false, eval e X.env) :: starEach es X.env := by rfl) : PA X (e :: es) (tCons te t) := by
  intro pos pins s σ H Q I h
  rw [hs]
  show wpAny _ _ (spliced ((false, eval e X.env) :: backTo pos (starEach es X.env))) _ _ s
  refine Calls.spliced_cons (thn (ha pins s σ H _ I h) fun u s1 ⟨x, H1, I1, r1, q1⟩ => ?_)
  exact thn (hr pos pins s1 σ H1 _ I1 q1) fun us s2 ⟨xs, H2, I2, r2, q2⟩ => ⟨x :: xs, H2, I2, .cons r1 r2, q2⟩
def tTup (t : TA) : TE := fun σ H Q => t σ H fun xs H1 => xs.length ≤ sizeLine ∧ ∀ p, H1 p = none → Q (.ref p) (upd H1 p (.tup xs))
def tLst (t : TA) : TE := fun σ H Q => t σ H fun xs H1 => xs.length ≤ sizeLine ∧ ∀ p, H1 p = none → Q (.ref p) (upd H1 p (.lst xs))
theorem pe_tup {x1} (h : PA X es t) : PE X (.Tuple es x1 pos) (tTup t) := by
  intro pins s σ H Q I hq
  refine wpAny_Tuple_spliced (thn (h pos pins s σ H _ I hq) fun us s1 ⟨xs, H1, I1, r, z, q⟩ => ⟨by rw [← r.length]; exact z, ?_⟩)
  have hf : H1 s1.heap.objs.size = none := I1.hok.fresh (Nat.le_refl _)
  refine ⟨.ref s1.heap.objs.size, upd H1 s1.heap.objs.size (.tup xs), I1.laid (t' := s1.toks) (fun b u e => Heap.get?_push_of_some _ e) (Nat.le_refl _) ?_, rfl, q _ hf⟩
  exact ⟨z, us, r, ⟨_, Heap.get?_push_size _ rfl, rfl, _, rfl⟩⟩
theorem pe_lst (h : PA X es t) : PE X (.List es pos) (tLst t) := by
  intro pins s σ H Q I hq
  refine wpAny_List_spliced (thn (h pos pins s σ H _ I hq) fun us s1 ⟨xs, H1, I1, r, z, q⟩ => ⟨by rw [← r.length]; exact z, ?_⟩)
  have hf : H1 s1.heap.objs.size = none := I1.hok.fresh (Nat.le_refl _)
  refine ⟨.ref s1.heap.objs.size, upd H1 s1.heap.objs.size (.lst xs), I1.laid (t' := s1.toks) (fun b u e => Heap.get?_push_of_some _ e) (Nat.le_refl _) ?_, rfl, q _ hf⟩
  exact ⟨z, us, 0, r, Heap.get?_push_size _ rfl⟩
end
abbrev Sp := List V → Hp → VK → XK → Prop
abbrev CXT := List Env → Hp → Shared → XK → Value → Shared → Prop
structure Env0 (P : Program) (w : World) (K : PySem.W.Frag) (mg : Str → Option Value) (base : Heap) (A : Around) (outer : List Env) (s : Shared) (H : Hp) : Prop where
  frames : A.frames = some outer
  mod : Mod K mg base
  bs : ∀ b o, base.get? b = some o → s.heap.get? b = some o ∧ H b = none
  bsz : base.objs.size ≤ s.heap.objs.size
  funs : s.heap.FunFrames base outer
  frf : ∀ b ∈ frs outer, H b = none
  hok : HOk P w H s.heap
  bare : AllBare s.gens
def CE (outer : List Env) (P : Program) (w : World) (H : Hp) (s : Shared) (Q : VK) (u : Value) (s' : Shared) : Prop :=
  ∃ v H', s'.os = s.os ∧ AllBare s'.gens ∧ Un (frs outer) [] H H' s.heap s'.heap ∧ HOk P w H' s'.heap ∧ RelV v u ∧ Q v H'
def CR (CX : CXT) (outer : List Env) (P : Program) (w : World) (H : Hp) (s : Shared) (Q : VK) (E : XK) (r : Result) (s' : Shared) : Prop :=
  match r with
  | .ok (.ret u) => CE outer P w H s Q u s'
  | .ok _ => False
  | .error e => CX outer H s E e s'
structure FnOk (P : Program) (w : World) (K : PySem.W.Frag) (mg : Str → Option Value) (base : Heap) (CX : CXT) (k : Nat) (f : Addr) (fd : FuncData) (ps : List Str) (sp : Sp) : Prop where
  len : ∀ vs H Q E, sp vs H Q E → vs.length = ps.length
  run : ∀ (A : Around) (outer : List Env) (s : Shared) (H : Hp) (args : Args) (us : List Value) (vs : List V) (Q : VK) (E : XK), Room k A → Env0 P w K mg base A outer s H → BindsTo s fd args (ps.zip us) → Vals vs us → sp vs H Q E →
    codeAny (model P w) A (.call (.ref f) args) (CR CX outer P w H s Q E) s
section
variable {X : Cx} {pins : List (Addr × Obj)} {σ : St} {H : Hp} {s s' : Shared}
theorem Inv.env0 (I : Inv X pins σ H s) : Env0 X.prog X.w X.K X.mg X.base X.A X.stack s H :=
  ⟨I.ok.frames, I.ok.mod, I.bs, Nat.le_trans I.ok.bsz I.sz, I.stack, I.stkFree, I.hok, I.bare⟩
theorem Inv.after {Q : VK} {u : Value} (I : Inv X pins σ H s) (h : CE X.stack X.prog X.w H s Q u s') : EP X pins σ Q u s' := by
  obtain ⟨v, H', os, bare, un, hok, r, q⟩ := h
  obtain ⟨hh, g, d, t, os'⟩ := s'
  obtain rfl : os' = s.os := os
  exact ⟨v, H', I.call (h' := hh) (g' := g) (d' := d) (t' := t) (ch := []) un hok bare (fun b z => absurd z (by simp)), r, q⟩
end
def tCall (sp : Sp) (dvs : List V) (E : XK) (t : TA) : TE := fun σ H Q => t σ H fun vs H1 => sp (vs ++ dvs) H1 Q E
def Binds (K : PySem.W.Frag) (fd : FuncData) (ps : List Str) (ds : List Value) : Prop :=
  ∀ (s : Shared) (us : List Value), K.In s.heap → (us ++ ds).length = ps.length → BindsTo s fd ⟨us, []⟩ (ps.zip (us ++ ds))
theorem Binds.all {K : PySem.W.Frag} {fd : FuncData} {ps : List Str} (h : ∀ us : List Value, us.length = ps.length → bindArgs fd ⟨us, []⟩ = pure (ps.zip us)) : Binds K fd ps [] := fun s us _ hl => by
  rw [List.append_nil] at hl ⊢
  exact .of_eq (h us hl)
def Passes (CX : CXT) (X : Cx) (E : XK) : Prop := ∀ (pins : List (Addr × Obj)) (σ : St) (H : Hp) (s : Shared) (e : Value) (s' : Shared), Inv X pins σ H s → CX X.stack H s E e s' → X.xe e s'
section
variable {X : Cx} {CX : CXT} {k : Nat} {f C : Addr} {fd : FuncData} {ps : List Str} {sp : Sp} {dvs : List V} {ds : List Value} {E : XK} {x m : Str} {p pos apos : Pos} {e o : Expr} {es : List Expr} {ta : TE} {t : TA}
theorem run_fn {pins : List (Addr × Obj)} {σ : St} {H : Hp} {s : Shared} {Q : VK} {us : List Value} {vs : List V} (F : FnOk X.prog X.w X.K X.mg X.base CX k f fd ps sp) (hr : Room k X.A) (hb : Binds X.K fd ps ds) (hd : Vals dvs ds) (hx : Passes CX X E)
    (I : Inv X pins σ H s) (r : Vals vs us) (h : sp (vs ++ dvs) H Q E) : wpAny (model X.prog X.w) X.A (call (.ref f) us) (EP X pins σ Q) X.xe s := by
  have r2 : Vals (vs ++ dvs) (us ++ ds) := r.append hd
  have hl : (us ++ ds).length = ps.length := by rw [← r2.length]; exact F.len _ _ _ _ h
  refine wpAny_call (codeAny_mono (F.run X.A X.stack s H ⟨us, []⟩ (us ++ ds) (vs ++ dvs) Q E hr I.env0 (hb s us I.kIn hl) r2 h) fun r s' hq => ?_)
  cases r with
  | error e => exact hx pins σ H s e s' I hq
  | ok fl =>
    cases fl with
    | ret u => exact I.after hq
    | next => exact False.elim hq
    | brk => exact False.elim hq
    | cont => exact False.elim hq
theorem pe_call (F : FnOk X.prog X.w X.K X.mg X.base CX k f fd ps sp) (hr : Room k X.A) (hg : Gl X x) (hm : X.mg x = some (.ref f)) (hk : PySem.W.keepIn X.K (.ref f) = true) (hb : Binds X.K fd ps ds) (hd : Vals dvs ds) (hx : Passes CX X E)
    (ha : PA X (e :: es) t) (hdb : (x == ("__debug__" : Str)) = false := by decide) (he : starEach (e :: es) X.env = (false, eval e X.env) :: starEach es X.env := by rfl) (hpl : (backTo pos (starEach es X.env)).any (·.1) = false := by rfl) :
    PE X (.Call (.Name x p) (e :: es) [] pos) (tCall sp dvs E t) := by
  intro pins s σ H Q I h
  refine wpAny_Call_Name_kw (ld_glob I hg hm ?_ hdb)
  refine PySem.W.callWith_K (h₀ := X.base) I.ok.mod.kin hk (thn (ha pos pins s σ H _ I h) fun us s1 ⟨vs, H1, I1, r, q⟩ => ⟨I1.kIn, ?_⟩) he hpl
  exact run_fn F hr hb hd hx I1 r q
end
section
variable {X : Cx} {CX : CXT} {k : Nat} {f C : Addr} {fd : FuncData} {ps ks : List Str} {sp : Sp} {E : XK} {x m : Str} {p pos apos kpos : Pos} {e o : Expr} {es : List Expr} {kws : List Keyword} {te ta : TE} {t tk : TA} {nm : Option Str}
variable {g : List Value → List Value → List Value} {gV : List V → List V → List V}
end
structure FnScope (N P : List Str) (sc : Scope) : Prop where
  kind : sc.kind = .function
  co : sc.isCoroutine = false
  gen : sc.isGenerator = false
  nd : N.Nodup
  pre : N.take P.length = P
  par : ∀ x ∈ P, sc.names.lookup x = some .local ∨ sc.names.lookup x = some .cell
  nofree : ∀ y ∈ sc.names, y.2 ≠ .free
theorem bindL_out {kindOf : Str → Option NameKind} {x : Str} : ∀ {binds : List (Str × Value)} {m : Str → Option Value}, (∀ v, (x, v) ∉ binds) → bindL kindOf binds m x = m x
  | [], _, _ => rfl
  | (n, v) :: r, m, h => by
    unfold bindL
    rw [bindL_out fun w hw => h w (List.mem_cons_of_mem _ hw)]
    split
    · have : x ≠ n := by rintro rfl; exact h v List.mem_cons_self
      simp [this]
    · rfl
theorem bindC_out {kindOf : Str → Option NameKind} {x : Str} : ∀ {binds : List (Str × Value)} {m : Str → Option Value}, (∀ v, (x, v) ∉ binds) → bindC kindOf binds m x = m x
  | [], _, _ => rfl
  | (n, v) :: r, m, h => by
    unfold bindC
    rw [bindC_out fun w hw => h w (List.mem_cons_of_mem _ hw)]
    split
    · rfl
    · have : x ≠ n := by rintro rfl; exact h v List.mem_cons_self
      simp [this]
theorem bindL_get {kindOf : Str → Option NameKind} {x : Str} {v : Value} : ∀ {P : List Str} {vs : List Value} {i : Nat} {m : Str → Option Value}, P.Nodup → P[i]? = some x → vs[i]? = some v → kindOf x = some .local →
    bindL kindOf (P.zip vs) m x = some v
  | [], _, _, _, _, h, _, _ => by simp at h
  | _ :: _, [], _, _, _, _, h, _ => by simp at h
  | p :: P, w :: vs, 0, m, nd, h1, h2, hk => by
    simp at h1 h2; subst h1; subst h2
    show bindL kindOf ((p, w) :: P.zip vs) m p = _
    unfold bindL
    rw [bindL_out fun v hv => (List.nodup_cons.mp nd).1 (List.of_mem_zip hv).1, if_pos hk]
    simp
  | p :: P, w :: vs, i + 1, m, nd, h1, h2, hk => by
    show bindL kindOf ((p, w) :: P.zip vs) m x = _
    unfold bindL
    exact bindL_get (i := i) (List.nodup_cons.mp nd).2 (by simpa using h1) (by simpa using h2) hk
theorem bindC_get {kindOf : Str → Option NameKind} {x : Str} {v : Value} : ∀ {P : List Str} {vs : List Value} {i : Nat} {m : Str → Option Value}, P.Nodup → P[i]? = some x → vs[i]? = some v → kindOf x ≠ some .local →
    bindC kindOf (P.zip vs) m x = some v
  | [], _, _, _, _, h, _, _ => by simp at h
  | _ :: _, [], _, _, _, _, h, _ => by simp at h
  | p :: P, w :: vs, 0, m, nd, h1, h2, hk => by
    simp at h1 h2; subst h1; subst h2
    show bindC kindOf ((p, w) :: P.zip vs) m p = _
    unfold bindC
    rw [bindC_out fun v hv => (List.nodup_cons.mp nd).1 (List.of_mem_zip hv).1, if_neg hk]
    simp
  | p :: P, w :: vs, i + 1, m, nd, h1, h2, hk => by
    show bindC kindOf ((p, w) :: P.zip vs) m x = _
    unfold bindC
    exact bindC_get (i := i) (List.nodup_cons.mp nd).2 (by simpa using h1) (by simpa using h2) hk
def start (N : List Str) (vs : List V) : St := vs.map some ++ List.replicate (N.length - vs.length) none
def cxOf (CX : CXT) (P : Program) (w : World) (K : PySem.W.Frag) (mg : Str → Option Value) (base : Heap) (N : List Str) (qual : Str) (scope : Scope) (f : Addr) (cd : Value) (A : Around) (outer : List Env) (s : Shared) (H : Hp) (E : XK) : Cx where
  prog := P
  w := w
  K := K
  mg := mg
  base := base
  A := A.deeper (envOfC qual scope s.heap.objs.size f cd)
  N := N
  s₀ := s
  H₀ := H
  env := envOfC qual scope s.heap.objs.size f cd
  outer := outer
  stack := envOfC qual scope s.heap.objs.size f cd :: outer
  ex := []
  calm := true
  fn := fun _ => true
  pn := []
  xe := fun e s' => wpAny (model P w) (A.deeper (envOfC qual scope s.heap.objs.size f cd)) (leaving (envOfC qual scope s.heap.objs.size f cd) e) (fun _ s'' => CX outer H s E e s'') (fun e' s'' => CX outer H s E e' s'') s'
theorem cell_has {sc : Scope} {n : Nat} {x : Str} (h : sc.names.lookup x = some .cell) : ∃ c, (cellsFrom n sc.names []).lookup x = some c := by
  have q := PySem.W.cellsFrom_some sc.names n [] (.inl h)
  exact Option.isSome_iff_exists.mp q
theorem inv_start {CX : CXT} {P : Program} {w : World} {K : PySem.W.Frag} {mg : Str → Option Value} {base : Heap} {N ps : List Str} {qual : Str} {scope : Scope} {f : Addr} {cd : Value} {A : Around} {outer : List Env} {s s1 : Shared} {H : Hp} {E : XK} {us : List Value} {vs : List V}
    (S : FnScope N ps scope) (hd : A.handled = none) (e0 : Env0 P w K mg base A outer s H) (hl : vs.length = ps.length) (r : Vals vs us)
    (x : InCallC s s.heap.objs.size (bindL (envOfC qual scope s.heap.objs.size f cd).kindOf (ps.zip us) fun _ => none) (cellsFrom (s.heap.objs.size + 1) scope.names []) (bindC (envOfC qual scope s.heap.objs.size f cd).kindOf (ps.zip us) fun _ => none) s1) :
    Inv (cxOf CX P w K mg base N qual scope f cd A outer s H E) [] (start N vs) H s1 := by
  have hpl : ps.length ≤ N.length := by have := congrArg List.length S.pre; rw [List.length_take] at this; omega
  obtain ⟨h1, tk, rfl, hk⟩ := x.done
  have noA : ∀ b : Addr, b ∉ (cxOf CX P w K mg base N qual scope f cd A outer s H E).ex := fun b z => absurd (show b ∈ ([] : List Addr) from z) (by simp)
  refine ⟨⟨e0.mod, S.kind, rfl, rfl, Nat.le_refl _, fun y z c h1 h2 => ?_, fun y hy => ?_, fun y c _ h => ?_, fun _ => hd, Around.frames_deeper e0.frames, .inr ⟨rfl, rfl⟩, fun b z => absurd z (noA b), e0.bs, e0.bsz, fun b _ _ => noA b, fun b z => absurd z (noA b), e0.funs, e0.frf⟩,
    rfl, e0.bare, Un.kept hk, ⟨_, x.toInCall.ns, fun i y v h1 h2 h3 => ?_⟩, fun y c h => ⟨_, x.cell y c h⟩, e0.hok.fresh (Nat.le_refl _), fun y c h => ?_, fun p hp => absurd (show p ∈ ([] : List (Addr × Obj)) from hp) (by simp), e0.hok.kept hk, ?_⟩
  · exact name_of_addr x.apart (PySem.mem_of_lookup h1) (PySem.mem_of_lookup h2)
  · have hy : scope.names.lookup y = some .cell ∨ scope.names.lookup y = some .free := hy
    rcases hy with hy | hy
    · exact cell_has hy
    · exact absurd rfl (S.nofree _ (PySem.mem_of_lookup hy))
  · exact Nat.le_of_lt (x.above y c (PySem.mem_of_lookup h))
  · have hi : i < vs.length := by
      unfold start at h2
      by_cases hi : i < vs.length
      · exact hi
      · rw [List.getElem?_append_right (by simpa using hi)] at h2
        rw [List.getElem?_replicate] at h2
        split at h2 <;> cases h2
    have ha : vs[i]? = some v := by
      unfold start at h2
      rw [List.getElem?_append_left (by simpa using hi), List.getElem?_map] at h2
      cases e : vs[i]? with
      | none => rw [e] at h2; cases h2
      | some a => rw [e] at h2; cases h2; rfl
    obtain ⟨u, hu, rv⟩ := r.get ha
    have hp : ps[i]? = some y := by
      rw [← S.pre, List.getElem?_take_of_lt (by omega)]; exact h1
    have ndP : ps.Nodup := by rw [← S.pre]; exact S.nd.sublist (List.take_sublist _ _)
    refine ⟨u, rv, ?_⟩
    rcases S.par y (List.mem_of_getElem? hp) with k | k
    · exact .inl ⟨k, bindL_get ndP hp hu k⟩
    · obtain ⟨c, e⟩ := cell_has (n := s.heap.objs.size + 1) k
      refine .inr ⟨.inl k, c, e, ?_⟩
      have q := x.cell y c e
      rw [bindC_get ndP hp hu (by show scope.names.lookup y ≠ _; rw [k]; decide)] at q
      exact q
  · exact e0.hok.fresh (Nat.le_of_lt (x.above y c (PySem.mem_of_lookup h)))
  · unfold start
    show _ = N.length
    rw [List.length_append, List.length_map, List.length_replicate]
    omega
theorem fn_of {CX : CXT} {P : Program} {w : World} {K : PySem.W.Frag} {mg : Str → Option Value} {base : Heap} {k : Nat} {f : Addr} {name qual : Str} {params : Arguments} {body : List Stmt} {scope : Scope} {dV kV doc pm cdv ct oc : Value} {an od : Option Addr}
    {osl : Array (Option Value)} {N ps : List Str} {sp : Sp} (lk : K.lookup f = some ⟨oc, od, .func (PySem.W.fnOf name qual params body scope dV kV doc pm an cdv ct), osl⟩) (hcd : PySem.W.codeIn K cdv qual = true) (S : FnScope N ps scope)
    (len : ∀ vs H Q E, sp vs H Q E → vs.length = ps.length)
    (hbody : ∀ (A : Around) (outer : List Env) (s : Shared) (H : Hp) (vs : List V) (Q : VK) (E : XK), Room k (A.deeper (envOfC qual scope s.heap.objs.size f cdv)) → sp vs H Q E →
      ∃ t, PSs (cxOf CX P w K mg base N qual scope f cdv A outer s H E) body t ∧ t { nx := fun _ H' => Q .non H', rt := Q } (start N vs) H) :
    FnOk P w K mg base CX (k + 1) f (PySem.W.fnOf name qual params body scope dV kV doc pm an cdv ct) ps sp := by
  refine ⟨len, fun A outer s H args us vs Q E hr e0 hb r hsp => ?_⟩
  have hl := len _ _ _ _ hsp
  have KX : K.In s.heap := e0.mod.kin.keeps fun b o e => (e0.bs b o e).1
  have lim : s.heap.NoLimit := e0.mod.nolimit.keeps fun b o e => (e0.bs b o e).1
  have hkind : ∀ y ∈ ps.zip us, scope.names.lookup y.1 = some .local ∨ (scope.names.lookup y.1 = some .cell ∧ ((cellsFrom (s.heap.objs.size + 1) scope.names []).lookup y.1).isSome = true) := fun ⟨n, v⟩ hy => by
    rcases S.par n (List.of_mem_zip hy).1 with q | q
    · exact .inl q
    · exact .inr ⟨q, PySem.W.cellsFrom_some _ _ _ (.inl q)⟩
  refine codeAny_call_function hr.depth (KX _ _ lk) rfl S.co S.gen rfl (PySem.W.codeRec_of KX hcd) (hb _ _ _ _ ?_)
  refine wpAny_newFunctionEnv_cells S.kind hkind fun env he s1 x => ?_
  subst he
  refine ⟨lim.keeps x.toInCall.keep, codeAny_func ?_⟩
  obtain ⟨t, ht, hq⟩ := hbody A outer s H vs Q E (hr.deeper _) hsp
  have I : Inv (cxOf CX P w K mg base N qual scope f cdv A outer s H E) [] (start N vs) H s1 := inv_start S hr.hd e0 hl r x
  refine wpAny_mono (ht [] s1 (start N vs) H _ I hq) (fun fl s' hs => ?_) fun e s' hs => hs
  have fin : ∀ {σ' : St} {H' : Hp} {v : V} {u : Value}, Inv (cxOf CX P w K mg base N qual scope f cdv A outer s H E) [] σ' H' s' → RelV v u → Q v H' → CE outer P w H s Q u s' :=
    fun {σ' H' v u} J rv q => ⟨v, H', J.os, J.bare, J.base, J.hok, rv, q⟩
  cases fl with
  | ret u =>
    obtain ⟨v, σ', H', J, rv, q⟩ := hs
    exact fin J rv q
  | next =>
    obtain ⟨σ', H', J, q⟩ := hs
    exact fin (v := V.non) (u := Value.none) J rfl q
  | brk =>
    obtain ⟨_, _, _, q⟩ := hs
    exact False.elim q
  | cont =>
    obtain ⟨_, _, _, q⟩ := hs
    exact False.elim q
end L2
namespace L2
open PySem PySem.Spec PyProof.Rows
section
variable {X : Cx} {x : Str} {p pos : Pos} {e : Expr} {es : List Expr} {t : TA} {id T : String} {r : List V → Hp → VK → Prop}
def tCB (r : List V → Hp → VK → Prop) (t : TA) : TE := fun σ H Q => t σ H fun vs H1 => r vs H1 Q
theorem pe_callB (hc : CallR X (.builtin id) r) (hg : Gl X x) (hm : X.mg x = none) (hv : bootBuiltins x = some (.builtin id)) (ha : PA X (e :: es) t) (hn : x ≠ "__name__" := by decide) (hdb : (x == ("__debug__" : Str)) = false := by decide)
    (he : starEach (e :: es) X.env = (false, eval e X.env) :: starEach es X.env := by rfl) (hpl : (backTo pos (starEach es X.env)).any (·.1) = false := by rfl) : PE X (.Call (.Name x p) (e :: es) [] pos) (tCB r t) := by
  intro pins s σ H Q I h
  refine wpAny_Call_Name_kw (ld_blt I hg hm hv ?_ hn hdb)
  exact PyProof.Rows.callWith_builtin1 (thn (ha pos pins s σ H _ I h) fun us s1 ⟨vs, H1, I1, r1, q1⟩ => hc pins s1 σ H1 vs us Q I1 r1 q1) he hpl
theorem pe_callTy (hc : CallR X (.type T) r) (hg : Gl X x) (hm : X.mg x = none) (hv : bootBuiltins x = some (.type T)) (ha : PA X (e :: es) t) (hn : x ≠ "__name__" := by decide) (hdb : (x == ("__debug__" : Str)) = false := by decide)
    (he : starEach (e :: es) X.env = (false, eval e X.env) :: starEach es X.env := by rfl) (hpl : (backTo pos (starEach es X.env)).any (·.1) = false := by rfl) : PE X (.Call (.Name x p) (e :: es) [] pos) (tCB r t) := by
  intro pins s σ H Q I h
  refine wpAny_Call_Name_kw (ld_blt I hg hm hv ?_ hn hdb)
  exact PyProof.Rows.callWith_type1 (thn (ha pos pins s σ H _ I h) fun us s1 ⟨vs, H1, I1, r1, q1⟩ => hc pins s1 σ H1 vs us Q I1 r1 q1) he hpl
end
end L2
namespace HT
open PySem PyProof.Rows
section
open PySem.SeqAt
open PySem.AutoSeq1 (wpAny_loadPart')
open PySem.MeetsSeq PySem.MeetsSeq2 PySem.MeetsSeq3
end
section
variable {prog : Program} {w : World} {A : Around} {E : Value → Shared → Prop} {s : Shared}
theorem cat_tup {t b : Addr} {vs ws : List Value} {Q : Value → Shared → Prop} (ht : IsTup s.heap t vs.toArray) (hb : IsTup s.heap b ws.toArray) (hv : vs ≠ [])
    (h1 : ws = [] → Q (.ref t) s) (h2 : ws ≠ [] → Q (.ref s.heap.objs.size) { s with heap := s.heap.push { cls := .type "tuple", data := .seq (vs ++ ws).toArray } })
    (hsz : vs.length + ws.length ≤ sizeLine) : wpAny (model prog w) A (binaryOp .Add (.ref t) (.ref b)) Q E s := by
  obtain ⟨⟨cls, dd, data, sl⟩, ho, hc, n, hd⟩ := id ht
  obtain ⟨⟨cls2, dd2, data2, sl2⟩, ho2, hc2, n2, hd2⟩ := id hb
  simp only at hc hd hc2 hd2
  subst hc hd hc2 hd2
  have e : vs.toArray ++ ws.toArray = (vs ++ ws).toArray := by simp
  by_cases hw : ws = []
  · exact concat_meets ⟨_, ho, rfl⟩ ⟨_, ho2, rfl⟩ noFill_tuple_add seq_tuple_add PySem.F.slot_tuple_add PySem.F.entry_tuple_add (PySem.F.args_tuple_add_2 _ _)
      (tuple_addW1 t b vs.toArray ws.toArray n n2 dd dd2 sl sl2 (by simpa using hv) (by simp [hw])) ⟨ho, ho2, h1 hw⟩
  · refine concat_meets ⟨_, ho, rfl⟩ ⟨_, ho2, rfl⟩ noFill_tuple_add seq_tuple_add PySem.F.slot_tuple_add PySem.F.entry_tuple_add (PySem.F.args_tuple_add_2 _ _)
      (tuple_addW2 t b vs.toArray ws.toArray n n2 dd dd2 sl sl2 (by simpa using hv) (by simpa using hw) (by rw [List.size_toArray, List.size_toArray]; exact hsz)) ⟨ho, ho2, ?_⟩
    rw [e]
    exact h2 hw
def sIx (n d : Nat) : Option Int → Nat
  | none => d
  | some v => if v < 0 then (v + (n : Int)).toNat else min v.toNat n
theorem sIx_nat (n d k : Nat) : sIx n d (some (k : Int)) = min k n := by
  show (if (k : Int) < 0 then ((k : Int) + (n : Int)).toNat else min (k : Int).toNat n) = min k n
  rw [if_neg (by omega), Int.toNat_natCast]
theorem sIx_le (n d : Nat) (hd : d ≤ n) (o : Option Int) : sIx n d o ≤ n := by
  cases o with
  | none => exact hd
  | some v =>
    show (if v < 0 then (v + (n : Int)).toNat else min v.toNat n) ≤ n
    by_cases hv : v < 0
    · rw [if_pos hv]; omega
    · rw [if_neg hv]; exact Nat.min_le_right _ _
end
end HT
namespace L2
open PySem PySem.Spec PyProof.Rows
abbrev TO := St → Hp → (Option Int → Hp → Prop) → Prop
def PO (X : Cx) (e : Option Expr) (t : TO) : Prop :=
  ∀ (pins : List (Addr × Obj)) (s : Shared) (σ : St) (H : Hp) (Q : Option Int → Hp → Prop), Inv X pins σ H s → t σ H Q →
    wpAny (model X.prog X.w) X.A (evalPart e X.env) (fun u s' => ∃ o H', Inv X pins σ H' s' ∧ IsPart u o ∧ Q o H') X.xe s
def tNoPart : TO := fun _ H Q => Q none H
def tPart (t : TE) : TO := fun σ H Q => t σ H fun x H1 => ∃ i, x = .int i ∧ Q (some i) H1
theorem intsAre_of {ns : List Int} : ∀ {us : List Value}, Vals (ns.map V.int) us → IntsAre us ns := by
  induction ns with
  | nil => intro us r; rw [List.map_nil] at r; cases r; exact .nil
  | cons n ns ih =>
    intro us r
    rw [List.map_cons] at r
    cases r with
    | cons r1 r2 =>
      obtain ⟨t, e⟩ := r1
      subst e
      exact .cons n t (ih r2)
section
variable {X : Cx} {e : Expr} {te : TE} {lo hi : Option Expr} {tl th : TO} {pos p2 : Pos}
theorem po_none : PO X none tNoPart := by
  intro pins s σ H Q I h
  rw [evalPart_none]
  exact wpAny_pure ⟨none, H, I, .none, h⟩
theorem po_some (h : PE X e te) : PO X (some e) (tPart te) := by
  intro pins s σ H Q I hw
  rw [evalPart_some]
  refine thn (h pins s σ H _ I hw) fun u s1 ⟨x, H1, I1, r1, q1⟩ => ?_
  obtain ⟨i, rfl, q⟩ := q1
  obtain ⟨t, rfl⟩ := r1
  exact ⟨some i, H1, I1, .int i t, q⟩
def SlR (X : Cx) (r : V → Option Int → Option Int → Hp → VK → Prop) : Prop :=
  ∀ (pins : List (Addr × Obj)) (s : Shared) (σ : St) (H : Hp) (x : V) (v vl vu : Value) (lo hi : Option Int) (sl : Addr) (Q : VK), Inv X pins σ H s → RelV x v → s.heap.IsSliceOf sl vl vu .none → IsPart vl lo → IsPart vu hi → r x lo hi H Q →
    ∃ T id, typeLookup (.type T) "__getitem__" = pure (some (.builtin id)) ∧ s.TypeIs v T ∧ wpAny (model X.prog X.w) X.A (getItem v (.ref sl)) (EP X pins σ Q) X.xe s
def tSl (r : V → Option Int → Option Int → Hp → VK → Prop) (te : TE) (tl th : TO) : TE := fun σ H Q => te σ H fun x H1 => tl σ H1 fun l H2 => th σ H2 fun u H3 => r x l u H3 Q
theorem pe_slice {r : V → Option Int → Option Int → Hp → VK → Prop} (hr : SlR X r) (he : PE X e te) (hl : PO X lo tl) (hu : PO X hi th) : PE X (.Subscript e (.Slice lo hi none p2) pos) (tSl r te tl th) := by
  intro pins s σ H Q I h
  refine Subscript_ (thn (he pins s σ H _ I h) fun v s1 ⟨x, H1, I1, r1, q1⟩ => ?_)
  refine wpAny_Slice (thn (hl pins s1 σ H1 _ I1 q1) fun vl s2 ⟨l, H2, I2, pl, q2⟩ => thn (hu pins s2 σ H2 _ I2 q2) fun vu s3 ⟨u, H3, I3, pu, q3⟩ => ?_)
  rw [evalPart_none]
  refine wpAny_pure ?_
  have I4 : Inv X pins σ H3 { s3 with heap := s3.heap.push { cls := .type "slice", data := .fields #[vl, vu, .none] } } := I3.kept (t' := s3.toks) fun b ob q => Heap.get?_push_of_some _ q
  obtain ⟨T, id, hT, ht, hg⟩ := hr pins { s3 with heap := s3.heap.push { cls := .type "slice", data := .fields #[vl, vu, .none] } } σ H3 x v vl vu l u s3.heap.objs.size Q I4 r1 (Heap.IsSliceOf.new ..) pl pu q3
  show wpAny (model X.prog X.w) X.A (subscriptTail e (.Slice lo hi none p2) v (.ref s3.heap.objs.size)) (EP X pins σ Q) X.xe { s3 with heap := s3.heap.push { cls := .type "slice", data := .fields #[vl, vu, .none] } }
  exact tail_any (ops := [.ref s3.heap.objs.size, v]) ht hT hg (by with_unfolding_all rfl)
def cutV (xs : List V) (lo hi : Option Int) : List V := (xs.drop (HT.sIx xs.length 0 lo)).take (HT.sIx xs.length xs.length hi - HT.sIx xs.length 0 lo)
theorem cutV_length (xs : List V) (lo hi : Option Int) : (cutV xs lo hi).length ≤ xs.length := by
  unfold cutV
  rw [List.length_take, List.length_drop]
  omega
def rCatT (K : PySem.W.Frag) : R2 := fun x y H Q => ∃ a b xs ys, x = .ref a ∧ y = .ref b ∧ SqT K H a xs ∧ SqT K H b ys ∧ xs ≠ [] ∧ xs.length + ys.length ≤ sizeLine ∧
  (ys = [] → Q (.ref a) H) ∧ (ys ≠ [] → ∀ p, H p = none → Q (.ref p) (upd H p (.tup (xs ++ ys))))
theorem Vals.nil_iff {xs : List V} {us : List Value} (r : Vals xs us) : us = [] ↔ xs = [] := by
  cases r with
  | nil => simp
  | cons _ _ => simp
theorem op_catT : OpR X (binaryOp .Add) (rCatT X.K) := by
  intro pins s σ H x y v u Q I rx ry h
  obtain ⟨a, b, xs, ys, rfl, rfl, ha, hb, hx, hz, q1, q2⟩ := h
  cases rx
  cases ry
  obtain ⟨its, r1, p1, _⟩ := I.tuple ha
  obtain ⟨its2, r2, p2, _⟩ := I.tuple hb
  refine HT.cat_tup p1 p2 (fun z => hx (r1.nil_iff.mp z)) (fun z => ⟨.ref a, H, I, rfl, q1 (r2.nil_iff.mp z)⟩) (fun z => ?_) (by rw [← r1.length, ← r2.length]; exact hz)
  refine ⟨.ref s.heap.objs.size, _, I.laid (t' := s.toks) (o := .tup (xs ++ ys)) (fun b ob q => Heap.get?_push_of_some _ q) (Nat.le_refl _) ?_, rfl, q2 (fun w => z (r2.nil_iff.mpr w)) _ (I.hok.fresh (Nat.le_refl _))⟩
  exact ⟨by rw [List.length_append]; exact hz, _, r1.append r2, IsTup.new _ _⟩
end
end L2
namespace L2
open PySem PySem.Spec PyProof.Rows
def ixN (n : Nat) (i : Int) : Option Nat := if 0 ≤ i then (if i < n then some i.toNat else none) else if -(n : Int) ≤ i then some (i + n).toNat else none
def atI {α : Type} (xs : List α) (i : Int) : Option α := (ixN xs.length i).bind fun j => xs[j]?
theorem ixN_seq {n : Nat} {i : Int} {j : Nat} (h : ixN n i = some j) : seqIndex? i n = some j ∧ j < n ∧ -(n : Int) ≤ i ∧ i < n := by
  unfold ixN at h
  by_cases h0 : 0 ≤ i
  · rw [if_pos h0] at h
    by_cases h1 : i < n
    · rw [if_pos h1] at h
      have e : i.toNat = j := Option.some.inj h
      exact ⟨by rw [seqIndex_of h0 h1, e], by omega, by omega, h1⟩
    · rw [if_neg h1] at h; cases h
  · rw [if_neg h0] at h
    by_cases h1 : -(n : Int) ≤ i
    · rw [if_pos h1] at h
      have e : (i + n).toNat = j := Option.some.inj h
      exact ⟨by rw [seqIndex_neg (by omega) h1, e], by omega, h1, by omega⟩
    · rw [if_neg h1] at h; cases h
theorem atI_get {α : Type} {xs : List α} {i : Int} {v : α} (h : atI xs i = some v) : ∃ j, seqIndex? i xs.length = some j ∧ xs[j]? = some v ∧ j < xs.length ∧ -(xs.length : Int) ≤ i ∧ i < xs.length := by
  unfold atI at h
  cases e : ixN xs.length i with
  | none => rw [e] at h; cases h
  | some j =>
    rw [e] at h
    obtain ⟨h1, h2, h3, h4⟩ := ixN_seq e
    exact ⟨j, h1, h, h2, h3, h4⟩
theorem atI_nat {α : Type} {xs : List α} {j : Nat} {v : α} (h : xs[j]? = some v) : atI xs (j : Int) = some v := by
  have hj : j < xs.length := (List.getElem?_eq_some_iff.mp h).1
  have e : ixN xs.length (j : Int) = some j := by
    unfold ixN
    rw [if_pos (by omega), if_pos (by omega)]; simp
  unfold atI; rw [e]; exact h
def PlainIx (b : Expr) : Prop := ∀ o i, subscripted b false o i = operate [o, i] (getItem o i)
def IxR (X : Cx) (r : R2) : Prop :=
  ∀ (value slice : Expr) (pins : List (Addr × Obj)) (s : Shared) (σ : St) (H : Hp) (x y : V) (v u : Value) (Q : VK), Inv X pins σ H s → RelV x v → RelV y u → r x y H Q →
    subscripted slice false v u = operate [v, u] (getItem v u) → wpAny (model X.prog X.w) X.A (subscriptTail value slice v u) (EP X pins σ Q) X.xe s
def MtR (X : Cx) (id : String) (r : V → List V → Hp → VK → Prop) : Prop :=
  ∀ (pins : List (Addr × Obj)) (s : Shared) (σ : St) (H : Hp) (x : V) (xs : List V) (v : Value) (us : List Value) (Q : VK), Inv X pins σ H s → RelV x v → Vals xs us → r x xs H Q →
    wpAny (model X.prog X.w) X.A (call (.builtin id) (v :: us)) (EP X pins σ Q) X.xe s
section
variable {X : Cx} {a b : Expr} {ta tb : TE} {pos : Pos}
theorem IxR.or {r r' : R2} (h : IxR X r) (h' : IxR X r') : IxR X (fun x y H Q => r x y H Q ∨ r' x y H Q) := by
  intro value slice pins s σ H x y v u Q I rx ry q hs
  rcases q with q | q
  · exact h value slice pins s σ H x y v u Q I rx ry q hs
  · exact h' value slice pins s σ H x y v u Q I rx ry q hs
theorem pe_ix {r : R2} (hr : IxR X r) (ha : PE X a ta) (hb : PE X b tb) (hs : PlainIx b) : PE X (.Subscript a b pos) (tOp r ta tb) := by
  intro pins s σ H Q I h
  exact Subscript_ (binT ha hb I h fun v u s2 x y H2 I2 rx ry q => hr a b pins s2 σ H2 x y v u Q I2 rx ry q (hs _ _))
def rIxL (K : PySem.W.Frag) : R2 := fun x y H Q => ∃ p xs i v, x = .ref p ∧ y = .int i ∧ SqL K H p xs ∧ atI xs i = some v ∧ Q v H
def rIxT (K : PySem.W.Frag) : R2 := fun x y H Q => ∃ p xs i v, x = .ref p ∧ y = .int i ∧ SqT K H p xs ∧ atI xs i = some v ∧ Q v H
def rIxS : R2 := fun x y H Q => ∃ z i c, x = .str z ∧ y = .int i ∧ z.length ≤ sizeLine ∧ atI z.cps.toList i = some c ∧ Q (.str ⟨#[c]⟩) H
theorem ix_list : IxR X (rIxL X.K) := by
  intro value slice pins s σ H x y v u Q I rx ry h hs
  obtain ⟨p, xs, i, z, rfl, rfl, hq, he, q⟩ := h
  cases rx
  obtain ⟨t, rfl⟩ := ry
  obtain ⟨its, r, pl, hz⟩ := I.list hq
  obtain ⟨j, h1, h2, h3, h4, h5⟩ := atI_get he
  obtain ⟨w, ew, rw'⟩ := r.get h2
  have hl := r.length
  have hn := line63
  have fin : EP X pins σ Q w s := ⟨z, H, I, rw', q⟩
  by_cases h0 : 0 ≤ i
  · have hj : i.toNat = j := by
      rw [seqIndex_of h0 h5] at h1
      exact Option.some.inj h1
    exact item_listR pl.isList h0 (by omega) (by rw [hj]; simpa using ew) fin hs
  · have hj : (i + (its.toArray.size : Int)).toNat = j := by
      rw [seqIndex_neg (by omega) h4] at h1
      rw [List.size_toArray, ← hl]
      exact Option.some.inj h1
    exact subscriptTail_builtinR (x := w) pl.isList.typeIs slot_list_getitem.lookup
      (wpAny_getItem_list_neg (Q := fun r s' => r = w ∧ EP X pins σ Q r s') pl.isList (by omega) (by rw [List.size_toArray] <;> omega) (by omega) (by rw [hj]; simpa using ew) ⟨rfl, fin⟩) hs
theorem ix_tup : IxR X (rIxT X.K) := by
  intro value slice pins s σ H x y v u Q I rx ry h hs
  obtain ⟨p, xs, i, z, rfl, rfl, hq, he, q⟩ := h
  cases rx
  obtain ⟨t, rfl⟩ := ry
  obtain ⟨its, r, pl, hz⟩ := I.tuple hq
  obtain ⟨j, h1, h2, h3, h4, h5⟩ := atI_get he
  obtain ⟨w, ew, rw'⟩ := r.get h2
  have hl := r.length
  have hn := line63
  have fin : EP X pins σ Q w s := ⟨z, H, I, rw', q⟩
  exact subscriptTail_builtinR (x := w) pl.typeIs slot_tuple_getitem.lookup
    (getItem_tuple (j := j) (Q := fun r s' => r = w ∧ EP X pins σ Q r s') pl (by omega) (by omega) (by rw [List.size_toArray, ← hl]; exact h1) (by simpa using ew) ⟨rfl, fin⟩) hs
theorem ix_str : IxR X rIxS := by
  intro value slice pins s σ H x y v u Q I rx ry h hs
  obtain ⟨z, i, c, rfl, rfl, hz, he, q⟩ := h
  obtain ⟨t, rfl⟩ := rx
  obtain ⟨t', rfl⟩ := ry
  obtain ⟨j, h1, h2, h3, h4, h5⟩ := atI_get he
  have hl : z.cps.toList.length = z.length := by simp [Str.length]
  rw [hl] at h1 h4 h5
  have hn := line63
  exact tail_any (typeIs_str s z t) slot_str_getitem.lookup (getItem_str (c := c) (by
    have e1 : decide (i < -(2 ^ 63 : Int)) = false := decide_eq_false (by omega)
    have e2 : decide (i ≥ 2 ^ 63) = false := decide_eq_false (by omega)
    rw [e1, e2, Bool.or_false]) (by rw [h1]; simpa using h2) ⟨.str ⟨#[c]⟩, H, I.tok _, ⟨_, rfl⟩, q⟩) hs
def rIx (K : PySem.W.Frag) : R2 := fun x y H Q => rIxL K x y H Q ∨ rIxT K x y H Q ∨ rIxS x y H Q
theorem ix_seq : IxR X (rIx X.K) := ix_list.or (ix_tup.or ix_str)
theorem mapSeq_set (its : List Value) (n j : Nat) (u : Value) : Obj.mapSeq (·.setIfInBounds j u) { cls := .type "list", data := .seq its.toArray n } = { cls := .type "list", data := .seq (its.set j u).toArray n } := by
  simp [Obj.mapSeq]
theorem Inv.lst {pins : List (Addr × Obj)} {σ : St} {H : Hp} {s : Shared} {p : Addr} {xs : List V} (I : Inv X pins σ H s) (h : H p = some (.lst xs)) :
    ∃ (its : List Value) (n : Nat), Vals xs its ∧ s.heap.get? p = some { cls := .type "list", data := .seq its.toArray n } ∧ xs.length ≤ sizeLine := by
  obtain ⟨z, its, n, r, e⟩ := I.hok p _ h
  exact ⟨its, n, r, e, z⟩
theorem Inv.lstUpd {pins : List (Addr × Obj)} {σ : St} {H : Hp} {s : Shared} {p : Addr} {xs ys : List V} {its its' : List Value} {n n' : Nat} {f : Obj → Obj} (I : Inv X pins σ H s) (h : H p = some (.lst xs))
    (ho : s.heap.get? p = some { cls := .type "list", data := .seq its.toArray n }) (hf : f { cls := .type "list", data := .seq its.toArray n } = { cls := .type "list", data := .seq its'.toArray n' }) (r : Vals ys its') (hz : ys.length ≤ sizeLine) (t : Nat) :
    Inv X pins σ (upd H p (.lst ys)) { s with heap := s.heap.update p f, toks := t } := by
  have e : (s.heap.update p f).get? p = some { cls := .type "list", data := .seq its'.toArray n' } := by
    rw [Heap.get?_update_self f ho (by rw [hf] <;> rfl), hf]
  refine I.write (x := p) (e := p) (by rw [h]; trivial) (.inl rfl) (fun b u hb q => (Heap.get?_update_other _ _ (Ne.symm hb)).trans q) ⟨_, e⟩ ?_
  exact ⟨hz, its', n', r, e⟩
def rSetL : V → V → V → Hp → (Hp → Prop) → Prop := fun o i v H Q => ∃ p xs k j, o = .ref p ∧ i = .int k ∧ H p = some (.lst xs) ∧ ixN xs.length k = some j ∧ Q (upd H p (.lst (xs.set j v)))
theorem set_list : PSet X rSetL := by
  intro pins s σ H o i v ov iv u Q I ro ri rv h
  obtain ⟨p, xs, k, j, rfl, rfl, hp, hj, q⟩ := h
  cases ro
  obtain ⟨t, rfl⟩ := ri
  obtain ⟨its, n, r, ho, hz⟩ := I.lst hp
  obtain ⟨h1, h2, h3, h4⟩ := ixN_seq hj
  have hl := r.length
  have hn := line63
  have I' : Inv X pins σ (upd H p (.lst (xs.set j v))) { s with heap := s.heap.update p (Obj.mapSeq (·.setIfInBounds j u)) } :=
    I.lstUpd hp ho (mapSeq_set its n j u) (r.set rv j) (by rw [List.length_set]; exact hz) s.toks
  by_cases h0 : 0 ≤ k
  · have hk : k.toNat = j := by
      rw [seqIndex_of h0 h4] at h1
      exact Option.some.inj h1
    exact PySem.W.ki_setAt ho h0 (by omega) (by rw [List.size_toArray, ← hl]; exact h4) (by rw [hk]; exact ⟨_, I', q⟩)
  · have hk : (k + (its.toArray.size : Int)).toNat = j := by
      rw [seqIndex_neg (by omega) h3] at h1
      rw [List.size_toArray, ← hl]
      exact Option.some.inj h1
    exact PySem.W.ki_setBack ho (by omega) (by rw [List.size_toArray, ← hl]; exact h3) (by omega) (by rw [hk]; exact ⟨_, I', q⟩)
theorem slice_bounds (lo hi : Option Int) (n : Nat) : (sliceBounds lo hi none n).1 = ((HT.sIx n 0 lo : Nat) : Int) ∧ (sliceBounds lo hi none n).2.1 = ((HT.sIx n n hi : Nat) : Int) ∧ (sliceBounds lo hi none n).2.2 = 1 := by
  refine ⟨?_, ?_, rfl⟩
  · cases lo with
    | none => simp [sliceBounds, HT.sIx]
    | some i =>
      simp only [sliceBounds, HT.sIx, Option.getD_none, show (1 : Int) > 0 by decide, if_true]
      by_cases h : i < 0
      · simp only [h, if_true] <;> omega
      · simp only [h, if_false] <;> omega
  · cases hi with
    | none => simp [sliceBounds, HT.sIx]
    | some i =>
      simp only [sliceBounds, HT.sIx, Option.getD_none, show (1 : Int) > 0 by decide, if_true]
      by_cases h : i < 0
      · simp only [h, if_true] <;> omega
      · simp only [h, if_false] <;> omega
theorem slicePick_cut (its : List Value) (lo hi : Option Int) : slicePick its.toArray lo hi none = ((its.drop (HT.sIx its.length 0 lo)).take (HT.sIx its.length its.length hi - HT.sIx its.length 0 lo)).toArray := by
  obtain ⟨h1, h2, h3⟩ := slice_bounds lo hi its.toArray.size
  unfold slicePick
  rw [h1, h2, h3]
  simp only [sliceRange_one, pick_run, List.size_toArray] <;> rfl
def rSlL (K : PySem.W.Frag) : V → Option Int → Option Int → Hp → VK → Prop := fun x lo hi H Q => ∃ a xs, x = .ref a ∧ SqL K H a xs ∧ ∀ p, H p = none → Q (.ref p) (upd H p (.lst (cutV xs lo hi)))
theorem sl_list : SlR X (rSlL X.K) := by
  intro pins s σ H x v vl vu lo hi sl Q I rx hs pl pu h
  obtain ⟨a, xs, rfl, hx, q⟩ := h
  cases rx
  obtain ⟨its, r, ht, hz⟩ := I.list hx
  have hlen := r.length
  refine ⟨"list", _, slot_list_getitem.lookup, ht.isList.typeIs, ?_⟩
  refine wpAny_getItem_list_slice ht.isList hs pl pu .none (by simp) ?_ (by rw [List.size_toArray] <;> omega)
  rw [slicePick_cut, ← hlen]
  refine ⟨.ref s.heap.objs.size, _, I.laid (t' := s.toks) (o := .lst (cutV xs lo hi)) (fun b ob q => Heap.get?_push_of_some _ q) (Nat.le_refl _) ?_, rfl, q _ (I.hok.fresh (Nat.le_refl _))⟩
  exact ⟨Nat.le_trans (cutV_length xs lo hi) hz, _, 0, (r.drop (HT.sIx xs.length 0 lo)).take (HT.sIx xs.length xs.length hi - HT.sIx xs.length 0 lo), Heap.get?_push_size _ rfl⟩
theorem call_len_seq : CallR X (.builtin "len") (fun xs H Q => ∃ p ys, xs = [.ref p] ∧ (SqL X.K H p ys ∨ SqT X.K H p ys) ∧ Q (.int ys.length) H) := by
  intro pins s σ H xs us Q I r h
  obtain ⟨p, ys, rfl, hq, q⟩ := h
  obtain ⟨u, rfl, rx⟩ := vals1 r
  cases rx
  have hn := line63
  rcases hq with hq | hq
  · obtain ⟨its, r', pl, hz⟩ := I.list hq
    have hlen := r'.length
    exact Calls.call_len_list pl.isList (by simp only [List.size_toArray] <;> omega) ⟨.int ys.length, H, I.tok _, ⟨s.toks + 1, by rw [List.size_toArray, hlen]⟩, q⟩
  · obtain ⟨its, r', pl, hz⟩ := I.tuple hq
    have hlen := r'.length
    exact len_tuple pl (by simp only [List.size_toArray] <;> omega) ⟨.int ys.length, H, I.tok _, ⟨s.toks + 1, by rw [List.size_toArray, hlen]⟩, q⟩
theorem call_len_str : CallR X (.builtin "len") (fun xs H Q => ∃ z, xs = [.str z] ∧ z.length ≤ sizeLine ∧ Q (.int z.length) H) := by
  intro pins s σ H xs us Q I r h
  obtain ⟨z, rfl, hz, q⟩ := h
  obtain ⟨u, rfl, t, rfl⟩ := vals1 r
  have hn := line63
  exact len_str (by omega) ⟨.int z.length, H, I.tok _, ⟨_, rfl⟩, q⟩
theorem call_list_of : CallR X (.type "list") (fun xs H Q => ∃ p ys, xs = [.ref p] ∧ (SqL X.K H p ys ∨ SqT X.K H p ys) ∧ ∀ l, H l = none → Q (.ref l) (upd H l (.lst ys))) := by
  intro pins s σ H xs us Q I r h
  obtain ⟨p, ys, rfl, hq, q⟩ := h
  obtain ⟨u, rfl, rx⟩ := vals1 r
  cases rx
  have fin : ∀ (its : List Value), Vals ys its → ys.length ≤ sizeLine → ∀ (h' : Heap) (c' : Nat), (∀ b o', s.heap.get? b = some o' → h'.get? b = some o') →
      h'.get? s.heap.objs.size = some { cls := .type "list", dict := none, data := .seq its.toArray c', slots := #[] } → EP X pins σ Q (.ref s.heap.objs.size) { s with heap := h' } := fun its r' hz h' c' kp e =>
    ⟨.ref s.heap.objs.size, _, I.laid (t' := s.toks) kp (Nat.le_refl _) (show ObjOk X.prog X.w _ h' _ (.lst ys) from ⟨hz, its, c', r', e⟩), rfl, q _ (I.hok.fresh (Nat.le_refl _))⟩
  rcases hq with hq | hq
  · obtain ⟨its, r', pl, hz⟩ := I.list hq
    have hlen := r'.length
    obtain ⟨o, ho, hc, n, hd⟩ := pl.isList
    exact call_list_seq p (.inl rfl) ho hc hd (fun h' c' kp e => fin its r' hz h' c' kp e) (by simp only [List.size_toArray] <;> omega)
  · obtain ⟨its, r', pl, hz⟩ := I.tuple hq
    have hlen := r'.length
    obtain ⟨o, ho, hc, n, hd⟩ := pl
    exact call_list_seq p (.inr rfl) ho hc hd (fun h' c' kp e => fin its r' hz h' c' kp e) (by simp only [List.size_toArray] <;> omega)
theorem call_tuple_of : CallR X (.type "tuple") (fun xs H Q => ∃ p ys, xs = [.ref p] ∧ ((SqL X.K H p ys ∧ ∀ l, H l = none → Q (.ref l) (upd H l (.tup ys))) ∨ (SqT X.K H p ys ∧ Q (.ref p) H))) := by
  intro pins s σ H xs us Q I r h
  obtain ⟨p, ys, rfl, h⟩ := h
  obtain ⟨u, rfl, rx⟩ := vals1 r
  cases rx
  rcases h with ⟨hq, q⟩ | ⟨hq, q⟩
  · obtain ⟨its, r', pl, hz⟩ := I.list hq
    have hlen := r'.length
    refine call_tuple_list pl.isList (fun h' kp => ?_) (by simp only [List.size_toArray] <;> omega)
    have I1 : Inv X pins σ H { s with heap := h' } := I.kept (t' := s.toks) kp
    have I2 : Inv X pins σ (upd H h'.objs.size (.tup ys)) { s with heap := h'.push { cls := .type "tuple", data := .seq its.toArray } } :=
      I1.laid (t' := s.toks) (fun b o e => Heap.get?_push_of_some _ e) (Nat.le_refl _) (show ObjOk X.prog X.w _ _ _ (.tup ys) from ⟨hz, its, r', IsTup.new _ _⟩)
    exact ⟨.ref h'.objs.size, _, I2, rfl, q _ (I1.hok.fresh (Nat.le_refl _))⟩
  · obtain ⟨its, r', pl, hz⟩ := I.tuple hq
    exact call_tuple_same pl ⟨.ref p, H, I, rfl, q⟩
def tyV (K : PySem.W.Frag) (T : String) (x : V) (H : Hp) : Prop := match x with
  | .str _ => T = "str"
  | .int _ => T = "int"
  | .ref p => (T = "list" ∧ ∃ xs, SqL K H p xs) ∨ (T = "tuple" ∧ ∃ o, K.lookup p = some o ∧ o.cls = .type "tuple" ∧ o.dict = none) ∨
      (T = "dict" ∧ ((∃ kvs, H p = some (.dK kvs)) ∨ ∃ kvs, H p = some (.dT kvs))) ∨ (T = "set" ∧ ∃ S n, H p = some (.set S n))
  | _ => False
theorem tyV_is {pins : List (Addr × Obj)} {σ : St} {H : Hp} {s : Shared} {T : String} {x : V} {v : Value} (I : Inv X pins σ H s) (r : RelV x v) (ty : tyV X.K T x H) :
    s.TypeIs v T ∧ ∀ a, v = .ref a → ∃ ob, s.heap.get? a = some ob ∧ ob.dict = none := by
  cases x with
  | str z =>
    obtain ⟨t, rfl⟩ := r
    cases (show T = "str" from ty)
    exact ⟨typeIs_str s z t, fun _ e => nomatch e⟩
  | int i =>
    obtain ⟨t, rfl⟩ := r
    cases (show T = "int" from ty)
    exact ⟨typeIs_int s i t, fun _ e => nomatch e⟩
  | ref p =>
    cases r
    rcases ty with ⟨rfl, xs, hq⟩ | ⟨rfl, o, hk, hc, hd⟩ | ⟨rfl, hk⟩ | ⟨rfl, S, n, hk⟩
    · obtain ⟨its, _, pl, _⟩ := I.list hq
      refine ⟨pl.isList.typeIs, fun a e => ?_⟩
      cases e
      obtain ⟨o, n, e, c, hd, _⟩ := pl
      exact ⟨o, e, hd⟩
    · refine ⟨⟨o, I.kIn p o hk, hc⟩, fun a e => ?_⟩
      cases e
      exact ⟨o, I.kIn _ o hk, hd⟩
    · have z : ∃ o, s.heap.get? p = some o ∧ o.ExactDict := by
        rcases hk with ⟨kvs, hk⟩ | ⟨kvs, hk⟩
        · obtain ⟨_, _, _, _, o, _, _, e, ex, _⟩ := I.hok p _ hk
          exact ⟨o, e, ex⟩
        · obtain ⟨_, _, _, _, o, _, _, e, ex, _⟩ := I.hok p _ hk
          exact ⟨o, e, ex⟩
      obtain ⟨o, e, ex⟩ := z
      refine ⟨⟨o, e, ex.1⟩, fun a e2 => ?_⟩
      cases e2
      exact ⟨o, e, ex.2.1⟩
    · obtain ⟨o, _, _, _, e, ex, _⟩ := I.hok p _ hk
      refine ⟨⟨o, e, ex.1⟩, fun a e2 => ?_⟩
      cases e2
      exact ⟨o, e, ex.2.1⟩
  | _ => exact False.elim ty
def tBM (K : PySem.W.Frag) (T : String) (r : V → List V → Hp → VK → Prop) (to : TE) (t : TA) : TE := fun σ H Q => to σ H fun x H1 => tyV K T x H1 ∧ t σ H1 fun xs H2 => r x xs H2 Q
variable {o e : Expr} {es : List Expr} {to : TE} {t : TA} {name : Str} {apos cpos : Pos} {T id : String} {r : V → List V → Hp → VK → Prop}
theorem pe_bm (pa : PlainAttrs T) (slot : Slot T name id) (hty : typeOf (.builtin id) = pure (.type "method_descriptor")) (hm : MtR X id r) (ho : PE X o to) (ha : PA X (e :: es) t)
    (hbase : attributeBase o name X.env (eval o X.env) = eval o X.env := by rfl)
    (hfew : ((backTo cpos (starEach (e :: es) X.env)).all (fun x => !x.1) && (backToKw cpos (keywordEach [] X.env)).all (fun x => x.1.isSome)
      && decide ((e :: es).length + ([] : List Keyword).length + (if ([] : List Keyword).isEmpty then 0 else 1) < 30)) = true := by rfl)
    (hline : (apos.endLine == cpos.line) = true := by rfl) (hs : starEach (e :: es) X.env = (false, eval e X.env) :: starEach es X.env := by rfl) (hplain : (backTo cpos (starEach es X.env)).any (·.1) = false := by rfl) :
    PE X (.Call (.Attribute o name apos) (e :: es) [] cpos) (tBM X.K T r to t) := by
  intro pins s σ H Q I h
  refine wpAny_Call_method_late hbase hfew hline rfl (thn (ho pins s σ H _ I h) fun v s1 ⟨x, H1, I1, r1, ty, q1⟩ => ?_)
  obtain ⟨h1, h2⟩ := tyV_is I1 r1 ty
  refine ⟨T, id, pa, slot, hty, h1, h2, ?_⟩
  have hA := ha cpos pins s1 σ H1 _ I1 q1
  rw [hs] at hA ⊢
  refine Calls.callWith_builtin (by show (false || (backTo cpos (starEach es X.env)).any (·.1)) = false; rw [hplain] <;> rfl) (Calls.evalArgs_plain ?_)
  exact thn hA fun us s2 ⟨vs, H2, I2, r2, q2⟩ => hm pins s2 σ H2 x vs v us Q I2 r1 r2 q2
end
end L2
namespace L2
open PySem PySem.Spec PyProof.Rows
def MtM (X : Cx) (id : String) (r : V → List V → Hp → VK → Prop) : Prop :=
  ∀ (pins : List (Addr × Obj)) (s : Shared) (σ : St) (H : Hp) (x : V) (xs : List V) (v : Value) (us : List Value) (Q : VK), Inv X pins σ H s → RelV x v → Vals xs us → r x xs H Q →
    wpAny (model X.prog X.w) X.A (call (.builtin id) (v :: us)) (EP X pins σ Q) X.xe s
theorem Vals.one : ∀ {x : V} {us : List Value}, Vals [x] us → ∃ u, us = [u] ∧ RelV x u
  | _, _, .cons r .nil => ⟨_, rfl, r⟩
theorem Vals.reverse {xs : List V} {us : List Value} (h : Vals xs us) : Vals xs.reverse us.reverse := by
  induction h with
  | nil => exact .nil
  | cons r t ih => rw [List.reverse_cons, List.reverse_cons]; exact Vals.append ih (.cons r .nil)
theorem Vals.rep {xs : List V} {us : List Value} (h : Vals xs us) : ∀ k : Nat, Vals (List.replicate k xs).flatten (List.replicate k us).flatten
  | 0 => .nil
  | k + 1 => by
    rw [List.replicate_succ, List.replicate_succ, List.flatten_cons, List.flatten_cons]
    exact Vals.append h (Vals.rep h k)
theorem foldl_rep (its : List Value) : ∀ (k : Nat) (acc : List Value),
    List.foldl (fun x1 x2 => x1 ++ x2) acc.toArray (List.replicate k its.toArray) = (acc ++ (List.replicate k its).flatten).toArray
  | 0, acc => by simp
  | k + 1, acc => by
    have e : acc.toArray ++ its.toArray = (acc ++ its).toArray := by simp
    have e2 : (acc ++ its) ++ (List.replicate k its).flatten = acc ++ (List.replicate (k + 1) its).flatten := by
      rw [List.replicate_succ, List.flatten_cons, List.append_assoc]
    rw [← e2, ← foldl_rep its k (acc ++ its), ← e, List.replicate_succ, List.foldl_cons]
section
variable {X : Cx} {pins : List (Addr × Obj)} {σ : St} {H : Hp} {s : Shared} {l b : Addr} {xs ys zs : List V}
theorem Inv.lset {its its' : List Value} {n : Nat} {f : Array Value → Array Value} {t' : Nat} (I : Inv X pins σ H s) (hH : H l = some (.lst xs))
    (e : s.heap.get? l = some { cls := .type "list", data := .seq its.toArray n }) (hf : f its.toArray = its'.toArray) (hv : Vals ys its') (hz : ys.length ≤ sizeLine) :
    Inv X pins σ (upd H l (.lst ys)) { s with heap := s.heap.update l (Obj.mapSeq f), toks := t' } := by
  have q := PySem.IsL.update e f
  rw [hf] at q
  refine I.write (x := l) (e := l) (by rw [hH]; exact trivial) (.inl rfl) (fun b' u hb hu => (Heap.get?_update_other s.heap (Obj.mapSeq f) (Ne.symm hb)).trans hu) ⟨_, q⟩ ?_
  exact ⟨hz, its', _, hv, q⟩
theorem Inv.lnew {its : List Value} {t' : Nat} (I : Inv X pins σ H s) (hv : Vals ys its) (hz : ys.length ≤ sizeLine) :
    Inv X pins σ (upd H s.heap.objs.size (.lst ys)) { s with heap := s.heap.push { cls := .type "list", data := .seq its.toArray }, toks := t' } :=
  I.laid (fun _ _ q => Heap.get?_push_of_some _ q) (Nat.le_refl _) ⟨hz, its, 0, hv, Heap.get?_push_size _ rfl⟩
theorem Inv.fresh (I : Inv X pins σ H s) : H s.heap.objs.size = none := I.hok.fresh (Nat.le_refl _)
theorem Inv.lstM (I : Inv X pins σ H s) (hH : H l = some (.lst xs)) : xs.length ≤ sizeLine ∧ ∃ (its : List Value) (n : Nat), Vals xs its ∧ xs.length = its.length ∧ s.heap.get? l = some { cls := .type "list", data := .seq its.toArray n } := by
  obtain ⟨z, its, n, r, e⟩ := I.hok l _ hH
  exact ⟨z, its, n, r, r.length, e⟩
theorem notLongL {n : Nat} (h : n ≤ sizeLine) : Builtin.List.listTooLong n = false := by
  unfold Builtin.List.listTooLong
  exact decide_eq_false (by omega)
end
section
variable {X : Cx}
def rAppend : V → List V → Hp → VK → Prop := fun x vs H Q => ∃ l xs y, x = .ref l ∧ vs = [y] ∧ H l = some (.lst xs) ∧ xs.length < sizeLine ∧ Q .non (upd H l (.lst (xs ++ [y])))
theorem mt_append : MtM X "list.append" rAppend := by
  intro pins s σ H x vs v us Q I rx rv h
  obtain ⟨l, xs, y, rfl, rfl, hH, hz, q⟩ := h
  cases rx
  obtain ⟨u, rfl, ru⟩ := rv.one
  obtain ⟨z, its, n, r, hl, e⟩ := I.lstM hH
  refine call_meets F.slot_list_append ⟨_, e, rfl⟩ F.entry_list_append (F.args_list_append_2 _ _) (PySem.list_append l its.toArray n u (by rw [List.size_toArray]; omega)) ⟨e, ?_⟩
  refine ⟨.non, _, I.lset (its' := its ++ [u]) hH e (by simp) (r.append (.cons ru .nil)) ?_, rfl, q⟩
  rw [List.length_append, List.length_singleton]
  omega
def rExtend : V → List V → Hp → VK → Prop := fun x vs H Q => ∃ l b xs zs, x = .ref l ∧ vs = [.ref b] ∧ H l = some (.lst xs) ∧ H b = some (.lst zs) ∧ xs.length + zs.length ≤ sizeLine ∧ Q .non (upd H l (.lst (xs ++ zs)))
theorem mt_extend : MtM X "list.extend" rExtend := by
  intro pins s σ H x vs v us Q I rx rv h
  obtain ⟨l, b, xs, zs, rfl, rfl, hH, hB, hz, q⟩ := h
  cases rx
  obtain ⟨u, rfl, ru⟩ := rv.one
  cases ru
  obtain ⟨z, its, n, r, hl, e⟩ := I.lstM hH
  obtain ⟨z2, its2, n2, r2, hl2, e2⟩ := I.lstM hB
  have hsz : its.toArray.size + its2.toArray.size ≤ sizeLine := by rw [List.size_toArray, List.size_toArray]; omega
  have hlong : ¬ (!its.toArray.isEmpty && Builtin.List.listTooLong (its.toArray.size + its2.toArray.size)) = true := by
    rw [notLongL hsz, Bool.and_false]
    exact Bool.false_ne_true
  refine call_meets F.slot_list_extend ⟨_, e, rfl⟩ F.entry_list_extend (F.args_list_extend_2 _ _)
    (AutoSeq1.list_extend_list_list_0 l its.toArray n b its2.toArray n2 hlong (by rw [List.size_toArray]; omega) (by omega)) ⟨e, e2, ?_⟩
  refine ⟨.non, _, I.lset (its' := its ++ its2) hH e (by simp) (r.append r2) ?_, rfl, q⟩
  rw [List.length_append]
  omega
def rCat : R2 := fun x y H Q => ∃ l b xs zs, x = .ref l ∧ y = .ref b ∧ H l = some (.lst xs) ∧ H b = some (.lst zs) ∧ xs.length + zs.length ≤ sizeLine ∧ ∀ p, H p = none → Q (.ref p) (upd H p (.lst (xs ++ zs)))
theorem op_cat : OpR X (binaryOp .Add) rCat := by
  intro pins s σ H x y v u Q I rx ry h
  obtain ⟨l, b, xs, zs, rfl, rfl, hH, hB, hz, q⟩ := h
  cases rx
  cases ry
  obtain ⟨z, its, n, r, hl, e⟩ := I.lstM hH
  obtain ⟨z2, its2, n2, r2, hl2, e2⟩ := I.lstM hB
  refine PySem.P.add_list e e2 ?_ (by rw [List.size_toArray, List.size_toArray]; omega)
  have ea : its.toArray ++ its2.toArray = (its ++ its2).toArray := by simp
  rw [ea]
  exact ⟨.ref _, _, I.lnew (t' := s.toks) (r.append r2) (by rw [List.length_append]; omega), rfl, q _ I.fresh⟩
def rRep : R2 := fun x y H Q => ∃ l k xs, x = .ref l ∧ y = .int k ∧ H l = some (.lst xs) ∧ -(2 ^ 63) ≤ k ∧ k < 2 ^ 63 ∧ xs.length * k.toNat ≤ sizeLine ∧
  ∀ p, H p = none → Q (.ref p) (upd H p (.lst (List.replicate k.toNat xs).flatten))
theorem len_rep {α : Type} (xs : List α) (k : Nat) : (List.replicate k xs).flatten.length = k * xs.length := by
  induction k with
  | zero => simp
  | succ k ih => rw [List.replicate_succ, List.flatten_cons, List.length_append, ih, Nat.succ_mul, Nat.add_comm]
theorem op_rep : OpR X (binaryOp .Mult) rRep := by
  intro pins s σ H x y v u Q I rx ry h
  obtain ⟨l, k, xs, rfl, rfl, hH, h1, h2, hz, q⟩ := h
  cases rx
  obtain ⟨t, rfl⟩ := ry
  obtain ⟨z, its, n, r, hl, e⟩ := I.lstM hH
  have hlen : its.toArray.size * k.toNat ≤ sizeLine := by rw [List.size_toArray, ← hl]; exact hz
  have hcap : ¬ its.toArray.size * k.toNat > (2 ^ 63 - 1) / 8 := by
    have : (sizeLine : Nat) ≤ (2 ^ 63 - 1) / 8 := by decide
    omega
  have hfit : ¬ (!Builtin.List.listFitsIndex k) = true := by
    rw [fitsIndex_both h1 h2]
    exact Bool.false_ne_true
  have hlong : ¬ Builtin.List.listTooLong (its.toArray.size * k.toNat) = true := by
    rw [notLongL hlen]
    exact Bool.false_ne_true
  have hnew : List.foldl (fun x1 x2 => x1 ++ x2) #[] (List.replicate (if its.toArray.isEmpty = true then 0 else k.toNat) its.toArray) = (List.replicate k.toNat its).flatten.toArray := by
    have f0 : ∀ m : Nat, List.foldl (fun x1 x2 => x1 ++ x2) #[] (List.replicate m its.toArray) = (List.replicate m its).flatten.toArray := fun m => by
      have := foldl_rep its m []
      rw [List.nil_append] at this
      exact this
    rw [f0]
    cases its with
    | nil => simp
    | cons a r' => rw [if_neg (by simp)]
  refine wpAny_binaryOp_repeat_ref (T := "list") (U := "int") (by decide) ⟨_, e, rfl⟩ (fun s' => typeIs_int s' k t) noFill_list_mul F.fills_int_mul F.slot_int_rmul repeat_list F.slot_int_index.lookup
    (call_meets F.slot_int_rmul (typeIs_int s k t) F.entry_int_rmul (F.args_int_rmul_2 _ _) (int___rmul___int_list k t l its.toArray n)
      ⟨e, rfl, ⟨_, e, rfl⟩, call_meets F.slot_list_mul ⟨_, e, rfl⟩ F.entry_list_mul (F.args_list_mul_2 _ _) (AutoListH.list___mul___list_int_3 l its.toArray n k t hfit hcap hlong) ⟨e, ?_⟩⟩)
  rw [hnew]
  exact ⟨.ref _, _, I.lnew (t' := s.toks) (r.rep k.toNat) (by rw [len_rep, Nat.mul_comm]; exact hz), rfl, q _ I.fresh⟩
end
section
variable {prog : Program} {w : World} {A : Around} {E : Value → Shared → Prop} {s : Shared}
end
section
variable {X : Cx}
end
end L2
namespace Att
open PySem PySem.W PySem.Calls PyProof.Rows
theorem ints_of_wellAll {P : Params} {h : Heap} : ∀ (ns : List Int) (vs : List Value), WellAll P h vs (ns.map WData.int) → IntsAre vs ns := by
  intro ns
  induction ns with
  | nil =>
    intro vs w
    rw [List.map_nil] at w
    cases w
    exact .nil
  | cons n ns ih =>
    intro vs w
    rw [List.map_cons] at w
    cases w with
    | cons a b =>
      cases a
      exact .cons _ _ (ih _ b)
theorem script_of {l : OpenLaw} {n : Nat} (hn : l.most = some n) {P : Params} {h : Heap} {args : List WData} {vals : List Value}
    (hpre : l.row.toRowW.claim.pre args = true) (hwl : WellAll P h vals args) :
    ∃ a vs ns, vals = [Value.ref a] ∧ args = [WData.list (ns.map WData.int)] ∧ h.get? a = some { cls := .type "list", data := .seq vs.toArray } ∧ IntsAre vs ns ∧ ns.length ≤ n := by
  have hsh : WShape.hasAll [] args [.list .int] = true := (pre_splitW hpre).1
  have hc : l.pre.holds [] { args := args } = true := (pre_splitW hpre).2
  obtain ⟨d, r, rfl, h1, h2⟩ := hasAllW_cons hsh
  obtain rfl := hasAllW_nil h2
  obtain ⟨xs, rfl, h3⟩ := hasW_list h1
  obtain ⟨ns, rfl⟩ := items_int h3
  have hlen : ns.length ≤ n := by
    unfold OpenLaw.pre at hc
    have h4 : (WTm.not (.lt (.lit (.int (n : Int))) (.len (.arg 0)))).holds [] { args := [.list (ns.map .int)] } = true := by
      have h4 := (holds_andW hc).1
      rw [hn] at h4
      exact h4
    have h5 := condW_of h4 (w_not (w_lt w_lit (w_len_list (w_arg rfl))))
    rw [List.length_map] at h5
    refine Nat.le_of_not_lt fun q => ?_
    have q' : (n : Int) < ((ns.length : Nat) : Int) := by omega
    first
      | (rw [decide_eq_true q'] at h5; exact absurd h5 (by decide))
      | (simp at h5; omega)
  cases hwl with
  | cons w1 w2 =>
    cases w2
    cases w1 with
    | list ho hall => exact ⟨_, _, ns, rfl, rfl, ho, ints_of_wellAll ns _ hall, hlen⟩
theorem post_true (l : OpenLaw) (args : List WData) : l.row.toRowW.claim.post args (.bool true) args = true :=
  postW_of (r := l.row.toRowW) (X := (true == true))
    (show WShape.has [] (.bool true) .bool = true by first | rfl | decide | simp [WShape.has, WShape.arms, WShape.armsAll])
    (show (WTm.eq .res (.lit (.bool true))).value [] { args := args, res := some (.bool true), after := args } = some (.bool (true == true)) from w_eq_bool (w_res rfl) w_lit) rfl
theorem attach_call {l : OpenLaw} {n : Nat} {q : Program} {loose : List Str} {XP : (Str → Option Value) → Heap → Prop} {YP : World → Heap → Prop} {d : DefRec}
    (hn : l.most = some n) (hdf : d.params.defaults = [])
    (call : ∀ (w : World) (s₀ s₁ : Shared) (mg mb : Str → Option Value) (fa : Addr) (o : Obj) (pm cd doc : Value) (a : Addr) (vs : List Value) (ns : List Int),
      Ground q loose [] XP w s₀ mg mb s₁.heap → YP w s₁.heap →
      s₁.heap.get? fa = some o → o.data = .func (docDef d.name d.params d.body d.scope pm cd doc) → s₁.heap.CodeRec cd d.name → mg d.name = some (.ref fa) →
      s₁.heap.get? a = some { cls := .type "list", data := .seq vs.toArray } → IntsAre vs ns → ns.length ≤ n → s₁.gens = #[] →
      codeAny (model l.prog w) callerA (.call (.ref fa) ⟨[.ref a], []⟩) (fun r s' => r = .ok (.ret (.bool true)) ∧ OldK s₁.heap s'.heap ∧ s'.os = s₁.os ∧ AllBare s'.gens) s₁) :
    WalkO q loose XP YP l.row.toRowW d [] (fun f vs => PySem.call f vs) := by
  intro w s₀ s₁ mg mb G Y fa o pm cd doc dV kV ho hd hcd hD hmg hg args vals as hpre hlay hrd hwl hlo
  obtain rfl : dV = .none := Dflts.none hD hdf
  obtain rfl : kV = .none := Dflts.noKw hD
  obtain ⟨a, vs, ns, rfl, rfl, hobj, hints, hlen⟩ := script_of hn hpre hwl
  refine enter_call (codeAny_mono (call w s₀ s₁ mg mb fa o pm cd doc a vs ns G Y ho (fd_plain hd) hcd hmg hobj hints hlen hg) fun r s' hq => ?_)
  obtain ⟨rfl, h2, h3, h4⟩ := hq
  exact ⟨.inl ⟨.bool true, .bool true, [], rfl, fun _ => rfl, .bool true, post_true l _, fun _ => ⟨List.Pairwise.nil, fun _ hm => (nomatch hm)⟩⟩, h2, h3, h4⟩
section
variable {prog : Program} {w : World} {A : Around} {E : Value → Shared → Prop} {s : Shared} {K : Frag}
end
end Att
namespace L2
open PySem PySem.Spec PyProof.Rows
theorem vals_ints : ∀ {vs : List Value} {ns : List Int}, IntsAre vs ns → Vals (ns.map V.int) vs
  | _, _, .nil => .nil
  | _, _, .cons n t h => .cons ⟨t, rfl⟩ (vals_ints h)
def Only (H : Hp) : Prop := ∀ b, H b = none ∨ ∃ o xs, H b = some (.frz o (.lst xs))
theorem law_call {P : Program} {w : World} {K : PySem.W.Frag} {mg mb : Str → Option Value} {CX : CXT} {k : Nat} {fa a : Addr} {fd : FuncData} {x : Str} {sp : Sp} {s₁ : Shared} {vs : List Value} {ns : List Int}
    (KX : K.In s₁.heap) (hns : s₁.heap.Ns mainGlobals mg) (hb : s₁.heap.Ns builtinsNs mb) (hbb : ∀ x : Str, x ≠ "__name__" → mb x = bootBuiltins x) (hlim : s₁.heap.NoLimit) (hg : s₁.gens = #[])
    (ha : s₁.heap.get? a = some { cls := .type "list", data := .seq vs.toArray }) (hi : IntsAre vs ns) (hl : ns.length ≤ sizeLine) (hr : Room k callerA)
    (F : ∀ base : Heap, K.In base → base.Ns mainGlobals mg → FnOk P w K mg base CX k fa fd [x] sp) (hbind : ∀ (s : Shared) (u : Value), BindsTo s fd ⟨[u], []⟩ [(x, u)])
    (hsp : ∀ H : Hp, Only H → SqL K H a (ns.map V.int) → sp [.ref a] H (fun v _ => v = .bl true) fun _ _ _ => False)
    (hCX : ∀ H e s', CX [] H s₁ (fun _ _ _ => False) e s' → False) :
    codeAny (model P w) callerA (.call (.ref fa) ⟨[.ref a], []⟩) (fun r s' => r = .ok (.ret (.bool true)) ∧ OldK s₁.heap s'.heap ∧ s'.os = s₁.os ∧ AllBare s'.gens) s₁ := by
  have rv := vals_ints hi
  have lenV := hi.length
  -- from an abstract heap in which nothing but the script may be tracked
  have core : ∀ H : Hp, Only H → SqL K H a (ns.map V.int) → HOk P w H s₁.heap → (∀ b, H b ≠ none → b = a) → (H a ≠ none → K.lookup a = none) →
      codeAny (model P w) callerA (.call (.ref fa) ⟨[.ref a], []⟩) (fun r s' => r = .ok (.ret (.bool true)) ∧ OldK s₁.heap s'.heap ∧ s'.os = s₁.os ∧ AllBare s'.gens) s₁ := by
    intro H hO hS hok hA hK
    have base_of : ∀ {b : Addr} {o : Obj}, s₁.heap.get? b = some o → H b = none → (hidT s₁.heap H).get? b = some o := fun e n => hidT_get e n
    have noA : ∀ {b : Addr} {o : Obj} {es : Array DictEntry} {ep : Nat}, s₁.heap.get? b = some o → o.data = .dict es ep → H b = none := fun {b o es ep} e d => by
      cases q : H b with
      | none => rfl
      | some u =>
        have e' : b = a := hA b (by rw [q]; simp)
        subst e'
        rw [ha] at e; cases e
        have d' : Data.seq vs.toArray _ = Data.dict es ep := d
        cases d'
    have nsK : ∀ {b : Addr} {m : Str → Option Value}, s₁.heap.Ns b m → (hidT s₁.heap H).Ns b m := fun {b m} ⟨o, es, ep, e, d, r⟩ => ⟨o, es, ep, base_of e (noA e d), d, r⟩
    have hKb : K.In (hidT s₁.heap H) := fun b o e => base_of (KX b o e) (by
      cases q : H b with
      | none => rfl
      | some u =>
        have e' : b = a := hA b (by rw [q]; simp)
        subst e'
        rw [hK (by rw [q]; simp)] at e; cases e)
    have hM : Mod K mg (hidT s₁.heap H) := ⟨hKb, nsK hns, ⟨mb, nsK hb, hbb⟩, let ⟨mc, h1, h2⟩ := hlim; ⟨mc, nsK h1, h2⟩⟩
    have e0 : Env0 P w K mg (hidT s₁.heap H) callerA [] s₁ H := ⟨rfl, hM, fun b o e => of_hidT e, Nat.le_of_eq (hidT_size _ _), trivial, fun b hb => absurd (show b ∈ ([] : List Addr) from hb) (by simp), hok, .of_eq hg⟩
    refine codeAny_mono ((F _ hKb (nsK hns)).run callerA [] s₁ H ⟨[.ref a], []⟩ [.ref a] [.ref a] _ _ hr e0 (hbind s₁ (.ref a)) (.cons rfl .nil) (hsp H hO hS)) fun r s' h => ?_
    cases r with
    | error e => exact (hCX H e s' h).elim
    | ok fl =>
      cases fl with
      | next => exact False.elim h
      | brk => exact False.elim h
      | cont => exact False.elim h
      | ret u =>
        obtain ⟨v, H', os, bare, un, hok', r', q⟩ := h
        have q' : v = .bl true := q
        subst q'
        obtain rfl : u = Value.bool true := r'
        refine ⟨rfl, OldK.of_keep fun b o e => ?_, os, bare⟩
        cases q : H b with
        | none => exact un.keep b o e q (by intro z; exact absurd (show b ∈ ([] : List Addr) from z) (by simp)) (by simp)
        | some u =>
          rcases hO b with z | ⟨ob, xs, z⟩
          · rw [q] at z; cases z
          · have z2 := un.frzs b ob _ z
            obtain ⟨e1, _⟩ := hok b _ z
            obtain ⟨e2, _⟩ := hok' b _ z2
            rw [e] at e1; cases e1
            exact e2
  cases hk : K.lookup a with
  | some o =>
    -- the script is one of the module's own objects
    have e := KX a o hk
    rw [ha] at e
    cases e
    refine core (fun _ => none) (fun _ => .inl rfl) (.inr ⟨_, vs.toArray, _, hk, rfl, rfl, rfl, by rw [List.size_toArray, lenV]; exact hl, by simpa using rv⟩) (fun b u z => by have z' : (none : Option HO) = some u := z; cases z') (fun b z => absurd rfl z) fun z => absurd rfl z
  | none =>
    refine core (fun b => if b = a then some (.frz { cls := .type "list", data := .seq vs.toArray } (.lst (ns.map V.int))) else none) (fun b => ?_) (.inl (.inr ⟨{ cls := .type "list", data := .seq vs.toArray }, if_pos rfl⟩)) (fun b u z => ?_) (fun b z => ?_) fun _ => hk
    · by_cases hb : b = a
      · exact .inr ⟨_, _, if_pos hb⟩
      · exact .inl (if_neg hb)
    · by_cases hb : b = a
      · have z' := (if_pos hb).symm.trans z
        cases z'
        subst hb
        exact ⟨ha, by rw [List.length_map]; exact hl, vs, _, rv, ha⟩
      · have z' := (if_neg hb).symm.trans z
        cases z'
    · by_cases hb : b = a
      · exact hb
      · exact absurd (if_neg hb) z
end L2
namespace L2
open PySem PySem.Spec PyProof.Rows
theorem walk_of {l : PySem.W.OpenLaw} {n k : Nat} {q : Program} {loose : List Str} {XP : (Str → Option Value) → Heap → Prop} {YP : World → Heap → Prop} {d : DefRec} {K : Params → PySem.W.Frag} {CX : World → CXT} {sp : World → Sp} {x : Str}
    (hn : l.most = some n) (hn2 : n ≤ sizeLine) (hdf : d.params.defaults = []) (hr : Room k callerA)
    (hY : ∀ (w : World) (h : Heap), YP w h → (K w.params).In h)
    (F : ∀ (w : World) (mg : Str → Option Value) (fa : Addr) (h : Heap), (K w.params).In h → h.Ns mainGlobals mg → mg d.name = some (.ref fa) →
      ∃ fd : FuncData, (∀ (s : Shared) (u : Value), BindsTo s fd ⟨[u], []⟩ [(x, u)]) ∧
        ∀ base : Heap, (K w.params).In base → base.Ns mainGlobals mg → FnOk l.prog w (K w.params) mg base (CX w) k fa fd [x] (sp w))
    (hsp : ∀ (w : World) (H : Hp) (a : Addr) (ns : List Int), ns.length ≤ n → Only H → SqL (K w.params) H a (ns.map V.int) → sp w [.ref a] H (fun v _ => v = .bl true) fun _ _ _ => False)
    (hCX : ∀ (w : World) (H : Hp) (s : Shared) (e : Value) (s' : Shared), CX w [] H s (fun _ _ _ => False) e s' → False) :
    PySem.W.WalkO q loose XP YP l.row.toRowW d [] (fun f vs => PySem.call f vs) := by
  refine Att.attach_call hn hdf fun w s₀ s₁ mg mb fa o pm cd doc a vs ns G Y ho hd hcd hmg hobj hints hlen hg => ?_
  have KX := hY w _ Y
  obtain ⟨fd, hb, hF⟩ := F w mg fa _ KX G.T.g hmg
  exact law_call KX G.T.g G.T.b G.T.builtins G.T.nolimit hg hobj hints (Nat.le_trans hlen hn2) hr hF hb (fun H hO hS => hsp w H a ns hlen hO hS) fun H e s' => hCX w H s₁ e s'
end L2
namespace L2
open PySem PySem.Spec PyProof.Rows
def defArgs (s : Stmt) : Arguments := match s with
  | .FunctionDef _ a _ _ _ _ _ _ _ _ => a
  | _ => { posonlyargs := [], args := [], vararg := none, kwonlyargs := [], kw_defaults := [], kwarg := none, defaults := [] }
def defBody (s : Stmt) : List Stmt := match s with
  | .FunctionDef _ _ b _ _ _ _ _ _ _ => b
  | _ => []
def defScope (s : Stmt) : Scope := match s with
  | .FunctionDef _ _ _ _ _ _ sc _ _ _ => sc
  | _ => { kind := .function, names := [], isGenerator := false, isCoroutine := false }
abbrev CX0 : CXT := fun _ _ _ _ _ _ => False
abbrev E0 : XK := fun _ _ _ => False
theorem pass0 {X : Cx} : Passes CX0 X E0 := fun _ _ _ _ _ _ _ h => h.elim
structure Fun (K : PySem.W.Frag) (x qual : Str) (st : Stmt) (f : Addr) (fd : FuncData) : Prop where
  ex : ∃ (oc : Value) (od : Option Addr) (kV doc pm : Value) (an : Option Addr) (cdv ct : Value) (osl : Array (Option Value)),
    fd = PySem.W.fnOf x qual (defArgs st) (defBody st) (defScope st) .none kV doc pm an cdv ct ∧ K.lookup f = some ⟨oc, od, .func fd, osl⟩ ∧ PySem.W.codeIn K cdv qual = true
  kp : PySem.W.keepIn K (.ref f) = true
section
variable {P : Program} {w : World} {K : PySem.W.Frag} {mg : Str → Option Value} {base : Heap}
theorem Fun.ok {x qual : Str} {st : Stmt} {f : Addr} {fd : FuncData} {N ps : List Str} {k : Nat} {sp : Sp} (F : Fun K x qual st f fd) (S : FnScope N ps (defScope st)) (len : ∀ vs H Q E, sp vs H Q E → vs.length = ps.length)
    (hbody : ∀ (cdv : Value) (A : Around) (outer : List Env) (s : Shared) (H : Hp) (vs : List V) (Q : VK) (E : XK), Room k (A.deeper (envOfC qual (defScope st) s.heap.objs.size f cdv)) → sp vs H Q E →
      ∃ t, PSs (cxOf CX0 P w K mg base N qual (defScope st) f cdv A outer s H E).nox (defBody st) t ∧ t { nx := fun _ H' => Q .non H', rt := Q } (start N vs) H) : FnOk P w K mg base CX0 (k + 1) f fd ps sp := by
  obtain ⟨oc, od, kV, doc, pm, an, cdv, ct, osl, rfl, lk, hcd⟩ := F.ex
  refine fn_of lk hcd S len fun A outer s H vs Q E hr hsp => ?_
  obtain ⟨t, h, q⟩ := hbody cdv A outer s H vs Q E hr hsp
  exact ⟨t, h.nox, q⟩
theorem Fun.binds {x qual : Str} {st : Stmt} {f : Addr} {fd : FuncData} {ps : List Str} (F : Fun K x qual st f fd)
    (h : ∀ (kV doc pm : Value) (an : Option Addr) (cdv ct : Value) (us : List Value), us.length = ps.length → bindArgs (PySem.W.fnOf x qual (defArgs st) (defBody st) (defScope st) .none kV doc pm an cdv ct) ⟨us, []⟩ = pure (ps.zip us)) : Binds K fd ps [] := by
  obtain ⟨oc, od, kV, doc, pm, an, cdv, ct, osl, rfl, lk, hcd⟩ := F.ex
  exact .all (h kV doc pm an cdv ct)
theorem fun_mk {x qual : Str} {st : Stmt} {f : Addr} {oc : Value} {od an : Option Addr} {osl : Array (Option Value)} {kV doc pm cdv ct : Value} (l : K.lookup f = some ⟨oc, od, .func (PySem.W.fnOf x qual (defArgs st) (defBody st) (defScope st) .none kV doc pm an cdv ct), osl⟩)
    (c : PySem.W.codeIn K cdv qual = true) (k : PySem.W.keepIn K (.ref f) = true) : Fun K x qual st f (PySem.W.fnOf x qual (defArgs st) (defBody st) (defScope st) .none kV doc pm an cdv ct) := ⟨⟨oc, od, kV, doc, pm, an, cdv, ct, osl, rfl, l, c⟩, k⟩
end
section
variable {X : Cx}
theorem pv (i : Nat) {x : Str} {pos : Pos} (hN : X.N[i]? = some x := by rfl) (hv : Vis X.env.scope x := by first | exact Or.inl rfl | exact Or.inr (Or.inl rfl) | exact Or.inr (Or.inr rfl)) (hd : (x == ("__debug__" : Str)) = false := by decide)
    (hcd : (x == ("__classdict__" : Str)) = false := by decide) : PE X (.Name x pos) (tVar i) := pe_var hN hv hd hcd
end
theorem iteF {A B : Prop} (h : B) : if false = true then A else B := by
  rw [if_neg Bool.false_ne_true]
  exact h
theorem iteT {A B : Prop} (h : A) : if true = true then A else B := by
  rw [if_pos rfl]
  exact h
theorem ite2 {c A B : Prop} [Decidable c] (h1 : c → A) (h2 : ¬ c → B) : if c then A else B := by
  by_cases h : c
  · rw [if_pos h]
    exact h1 h
  · rw [if_neg h]
    exact h2 h
def Same (H H' : Hp) : Prop := ∀ b o, H b = some o → H' b = some o
theorem Same.refl (H : Hp) : Same H H := fun _ _ h => h
theorem Same.trans {H H1 H2 : Hp} (a : Same H H1) (b : Same H1 H2) : Same H H2 := fun c o h => b c o (a c o h)
theorem Same.free {H H' : Hp} (e : Same H H') {l : Addr} (h : H' l = Option.none) : H l = Option.none := by
  cases q : H l with
  | none => rfl
  | some o =>
    rw [e l o q] at h
    cases h
end L2
namespace L2
open PySem PySem.Spec PyProof.Rows
theorem closure_go (env : Env) : ∀ (names : List (Str × NameKind)) (acc : List (Str × Addr)), (∀ x ∈ names, x.2 = .free → ∃ c, env.cells.lookup x.1 = some c) →
    (∀ x c, acc.lookup x = some c → env.cells.lookup x = some c) →
    ∃ cl : List (Str × Addr), (forIn names acc (fun (x : Str × NameKind) r => (if (x.2 == .free) = true then cellOf env x.1 >>= fun a => pure (ForInStep.yield ((x.1, a) :: r)) else pure (ForInStep.yield r) : Sem (ForInStep (List (Str × Addr)))))) = pure cl ∧
      (∀ x c, cl.lookup x = some c → env.cells.lookup x = some c) ∧ (∀ x c, acc.lookup x = some c → ∃ d, cl.lookup x = some d) ∧ (∀ x ∈ names, x.2 = .free → ∃ c, cl.lookup x.1 = some c)
  | [], acc, _, h2 => ⟨acc, rfl, h2, fun x c e => ⟨c, e⟩, fun x hx => by simp at hx⟩
  | (n, k) :: r, acc, h1, h2 => by
    rw [List.forIn_cons]
    by_cases hk : k = .free
    · subst hk
      obtain ⟨c, hc⟩ := h1 (n, .free) List.mem_cons_self rfl
      obtain ⟨cl, e, a1, a2, a3⟩ := closure_go env r ((n, c) :: acc) (fun x hx => h1 x (List.mem_cons_of_mem _ hx)) (fun x d e => by
        rw [List.lookup_cons] at e
        cases hb : x == n with
        | true =>
          rw [hb] at e
          have hxn : x = n := by simpa using hb
          cases e
          rw [hxn]; exact hc
        | false => rw [hb] at e; exact h2 x d e)
      have hco : cellOf env n = pure c := by unfold cellOf; simp only at hc; rw [hc]
      refine ⟨cl, ?_, a1, fun x d e => ?_, fun x hx hf => ?_⟩
      · simp only [beq_self_eq_true, if_true, hco, pure_bind]
        exact e
      · by_cases hx : x = n
        · subst hx; exact a2 x c (by simp [List.lookup_cons])
        · exact a2 x d (by rw [List.lookup_cons]; have : (x == n) = false := by simpa using hx
                           rw [this]; exact e)
      · rcases List.mem_cons.mp hx with rfl | hx
        · exact a2 n c (by simp [List.lookup_cons])
        · exact a3 x hx hf
    · obtain ⟨cl, e, a1, a2, a3⟩ := closure_go env r acc (fun x hx => h1 x (List.mem_cons_of_mem _ hx)) h2
      have hb : (k == NameKind.free) = false := by simpa using hk
      refine ⟨cl, ?_, a1, a2, fun x hx hf => ?_⟩
      · simp only [hb, Bool.false_eq_true, if_false, pure_bind]
        exact e
      · rcases List.mem_cons.mp hx with rfl | hx
        · exact absurd hf hk
        · exact a3 x hx hf
theorem closure_ok (env : Env) (sc : Scope) (h1 : ∀ x ∈ sc.names, x.2 = .free → ∃ c, env.cells.lookup x.1 = some c) :
    ∃ cl : List (Str × Addr), closureFor sc env = pure cl ∧ (∀ x c, cl.lookup x = some c → env.cells.lookup x = some c) ∧ (∀ x ∈ sc.names, x.2 = .free → ∃ c, cl.lookup x.1 = some c) := by
  obtain ⟨cl, e, a1, _, a3⟩ := closure_go env sc.names [] h1 (fun x c e => by simp at e)
  refine ⟨cl, ?_, a1, a3⟩
  unfold closureFor
  simp only [bind_pure]
  exact e
end L2
namespace L2
open PySem PySem.Spec PyProof.Rows
def Cx.blk (X : Cx) (sc : Scope) (cl : List (Str × Addr)) (N' : List Str) (s3 : Shared) (H3 : Hp) (ex : List Addr) : Cx :=
  { X with N := N', s₀ := s3, H₀ := H3, env := compEnvC sc cl s3.heap.objs.size X.env, outer := X.stack, stack := X.stack, ex := ex, fn := fun _ => false, pn := [], xe := fun _ _ => False }
structure BlkOk (X : Cx) (sc : Scope) : Prop where
  kind : sc.kind = .function
  names : ∀ x ∈ sc.names, x.2 = .local → sc.names.lookup x.1 = some .local
  nocell : ∀ x ∈ sc.names, x.2 ≠ .cell
  free : ∀ x ∈ sc.names, x.2 = .free → X.env.kindOf x.1 = some .cell
theorem lookup_mem_kind {names : List (Str × NameKind)} {x : Str} {k : NameKind} (h : names.lookup x = some k) : (x, k) ∈ names := PySem.mem_of_lookup h
theorem lookup_relabel_back {env : Env} : ∀ {names : List (Str × NameKind)} {x : Str} {k : NameKind},
    (names.map fun (n, k) => if (k == NameKind.free && env.scope.kind == .function && env.kindOf n == some .cell) then (n, NameKind.cell) else (n, k)).lookup x = some k →
    names.lookup x = some k ∨ (k = .cell ∧ names.lookup x = some .free)
  | [], _, _, h => by simp at h
  | (n, k0) :: r, x, k, h => by
    have ih := @lookup_relabel_back env r x k
    change List.lookup x ((if (k0 == NameKind.free && env.scope.kind == .function && env.kindOf n == some .cell) = true then (n, NameKind.cell) else (n, k0)) :: _) = _ at h
    cases hx : x == n with
    | true =>
      by_cases hc : (k0 == NameKind.free && env.scope.kind == .function && env.kindOf n == some .cell) = true
      · rw [if_pos hc] at h
        simp only [List.lookup_cons, hx] at h
        have hk : k0 = .free := by simp only [Bool.and_eq_true, beq_iff_eq] at hc; exact hc.1.1
        cases h
        exact .inr ⟨rfl, by simp only [List.lookup_cons, hx, hk]⟩
      · rw [if_neg hc] at h
        simp only [List.lookup_cons, hx] at h
        cases h
        exact .inl (by simp only [List.lookup_cons, hx])
    | false =>
      have h' : List.lookup x (r.map fun (n, k) => if (k == NameKind.free && env.scope.kind == .function && env.kindOf n == some .cell) then (n, NameKind.cell) else (n, k)) = some k := by
        by_cases hc : (k0 == NameKind.free && env.scope.kind == .function && env.kindOf n == some .cell) = true
        · rw [if_pos hc] at h; simp only [List.lookup_cons, hx] at h; exact h
        · rw [if_neg hc] at h; simp only [List.lookup_cons, hx] at h; exact h
      simp only [List.lookup_cons, hx]
      exact ih h'
section
variable {X : Cx} {pins : List (Addr × Obj)} {σ σ' : St} {H : Hp} {s : Shared} {sc : Scope} {cl : List (Str × Addr)} {N' : List Str} {fp : List Addr}
theorem blk_start (I : Inv X pins σ H s) (B : BlkOk X sc) (c1 : ∀ x c, cl.lookup x = some c → X.env.cells.lookup x = some c) (c2 : ∀ x ∈ sc.names, x.2 = .free → ∃ c, cl.lookup x.1 = some c)
    (hf : ∀ b ∈ fp, FpOk X pins H b ∧ b < s.heap.objs.size) (hlen : σ'.length = N'.length)
    (hcap : ∀ (i : Nat) (x : Str) (v : V), N'[i]? = some x → σ'[i]? = some (some v) → Vis (relabel sc X.env) x → ∃ j : Nat, X.N[j]? = some x ∧ σ[j]? = some (some v) ∧ Vis X.env.scope x ∧ sc.names.lookup x = some .free)
    {h' : Heap} {tk : Nat} (hns : h'.Ns s.heap.objs.size (fun _ => none)) (hsb : Heap.SameBut s.heap.objs.size (s.heap.push { cls := .type "dict", data := .dict #[] }) h') :
    Inv (X.blk sc cl N' s H fp) [] σ' H { s with heap := h', toks := tk } := by
  have hk : ∀ b u, s.heap.get? b = some u → h'.get? b = some u := fun b u e => (hsb.2 b (Nat.ne_of_lt (Heap.lt_size e))).trans (Heap.get?_push_of_some _ e)
  have hcell : ∀ x c, cl.lookup x = some c → c < s.heap.objs.size := fun x c e => by
    obtain ⟨v, q⟩ := I.cell x c (c1 x c e)
    exact q.lt
  have cll : ∀ x c, cl.lookup x = some c → ∃ v, h'.IsCell c v := fun x c e => by
    obtain ⟨v, o, e1, e2⟩ := I.cell x c (c1 x c e)
    exact ⟨v, o, hk _ _ e1, e2⟩
  refine ⟨⟨I.ok.mod, B.kind, I.ok.glob, I.ok.blt, Nat.le_refl _, fun x y c e1 e2 => I.ok.inj x y c (c1 x c e1) (c1 y c e2), fun x hx => ?_, fun x c z => (by cases z), I.ok.hd, I.ok.frames, .inl rfl, fun b hb => ⟨Nat.ne_of_lt (hf b hb).2, fun x c e => (hf b hb).1.2.2.2.2.1 x c (c1 x c e)⟩,
    I.bs, ?_, fun b o e hb => ?_, fun b hb hb' => ?_, I.stack, I.stkFree⟩, rfl, I.bare, Un.kept hk, ⟨_, hns, fun i x v e1 e2 e3 => ?_⟩, cll, I.hok.fresh (Nat.le_refl _), fun x c e => I.freeC x c (c1 x c e), fun p hp => absurd (show p ∈ ([] : List (Addr × Obj)) from hp) (by simp), I.hok.kept hk, hlen⟩
  · have hx' : (relabel sc X.env).names.lookup x = some .cell ∨ (relabel sc X.env).names.lookup x = some .free := hx
    have : sc.names.lookup x = some .free := by
      rcases hx' with h | h
      · rcases lookup_relabel_back h with h | ⟨_, h⟩
        · exact absurd rfl (B.nocell _ (lookup_mem_kind h))
        · exact h
      · rcases lookup_relabel_back h with h | ⟨h0, h⟩
        · exact h
        · cases h0
    exact c2 (x, .free) (lookup_mem_kind this) rfl
  · exact Nat.le_trans I.ok.bsz I.sz
  · have := (hf b hb).1.2.2.2.1
    rcases this with z | z
    · exact I.ok.noex b o e z
    · exact absurd (Nat.lt_of_lt_of_le (Heap.lt_size e) (Nat.le_trans I.ok.bsz z)) (Nat.lt_irrefl _)
  · have := I.stkSub b hb'
    rcases List.mem_cons.mp this with z | z
    · exact (hf b hb).1.2.1 z
    · exact (hf b hb).1.2.2.1 z
  · obtain ⟨j, e4, e5, e6, e7⟩ := hcap i x v e1 e2 e3
    obtain ⟨m, hn, hl⟩ := I.loc
    obtain ⟨u, r, l⟩ := hl j x v e4 e5 e6
    refine ⟨u, r, ?_⟩
    have kf := B.free (x, .free) (lookup_mem_kind e7) rfl
    have kf' : X.env.kindOf x = some .cell := kf
    rcases l with ⟨k1, _⟩ | ⟨_, c, e8, e9⟩
    · rw [kf'] at k1; cases k1
    · obtain ⟨d, hd⟩ := c2 (x, .free) (lookup_mem_kind e7) rfl
      have hd' : cl.lookup x = some d := hd
      have := c1 x d hd'
      rw [e8] at this
      cases this
      refine .inr ⟨?_, c, hd', ?_⟩
      · rcases e3 with z | z | z
        · rcases lookup_relabel_back z with h | ⟨h0, h⟩
          · rw [e7] at h; cases h
          · cases h0
        · exact .inl z
        · exact .inr z
      · obtain ⟨o, q1, q2⟩ := e9
        exact ⟨o, hk _ _ q1, q2⟩
theorem blk_end {H' : Hp} {σ'' : St} {pins' : List (Addr × Obj)} {s' : Shared} {h'' : Heap} (I : Inv X pins σ H s) (hf : ∀ b ∈ fp, FpOk X pins H b ∧ b < s.heap.objs.size) (J : Inv (X.blk sc cl N' s H fp) pins' σ'' H' s')
    (hsb : Heap.SameBut s.heap.objs.size s'.heap h'') : Inv X pins σ H' { s' with heap := h'' } := by
  have ne : ∀ b o, s.heap.get? b = some o → b ≠ s.heap.objs.size := fun b o e => Nat.ne_of_lt (Heap.lt_size e)
  have hfree : H' s.heap.objs.size = none := J.free
  have B : Un (frs X.stack) fp H H' s.heap s'.heap := J.base
  refine I.call' (ch := fp) (s' := { s' with heap := h'' }) J.os ⟨fun b o e n hb hx => ?_, fun b o e n hb hx => ?_, B.free, fun b o e hx => ?_, B.tups, B.frzs, B.tbls⟩ (fun b o e => ?_) J.bare fun b hb => ?_
  · exact (hsb.2 b (ne b o e)).trans (B.keep b o e n hb hx)
  · obtain ⟨sl, q⟩ := B.slot b o e n hb hx
    exact ⟨sl, (hsb.2 b (ne b o e)).trans q⟩
  · obtain ⟨o', q⟩ := B.there b o e hx
    exact ⟨o', (hsb.2 b (ne b o e)).trans q⟩
  · refine (J.hok b o e).stay (fun c w' hc q => (hsb.2 c ?_).trans q) (fun _ q => q) fun _ _ q => q
    rintro rfl
    rcases hc with rfl | hc
    · rw [hfree] at e; cases e
    · rw [hfree] at hc; cases hc
  · obtain ⟨f0, f1, f2, f3, f4, f5⟩ := (hf b hb).1
    exact ⟨f3, f1, f4, f5⟩
end
abbrev TR := St → Hp → (St → Hp → Prop) → Prop
def PR (X : Cx) (rest : Sem Unit) (t : TR) : Prop :=
  ∀ (pins : List (Addr × Obj)) (s : Shared) (σ : St) (H : Hp) (N : St → Hp → Prop), Inv X pins σ H s → t σ H N → wpAny (model X.prog X.w) X.A rest (fun _ s' => ∃ σ' H', Inv X pins σ' H' s' ∧ N σ' H') X.xe s
def PTs (X : Cx) (ifs : List Expr) (t : TT) : Prop :=
  ∀ (pins : List (Addr × Obj)) (s : Shared) (σ : St) (H : Hp) (Q : Bool → Hp → Prop), Inv X pins σ H s → t σ H Q →
    wpAny (model X.prog X.w) X.A (forIn ifs true fun c r => if r = true then do let ok ← isTrue c X.env (eval c X.env); pure (ForInStep.yield ok) else pure (ForInStep.yield r)) (TP X pins σ Q) X.xe s
def tYes : TT := fun _ H Q => Q true H
theorem pts_nil {X : Cx} : PTs X [] tYes := fun _ _ _ H _ I h => wpAny_tests_nil ⟨H, I, h⟩
theorem pts_one {X : Cx} {c : Expr} {t : TT} (h : PT X c t) : PTs X [c] t := fun pins s σ H Q I q => wpAny_tests_one (h pins s σ H Q I q)
def tLoop (J : It) (g : TG) (tt : TT) (tr : TR) (Qe : St → Hp → Prop) (σ : St) (H : Hp) : Prop := ∃ W : Nat → Nat → St → Hp → Prop, (∃ m, W 0 m σ H) ∧ ∀ i m σ H, W i m σ H →
  (J.stop i H ∧ Qe σ H) ∨ (J.go i H ∧ ∃ N : St → Hp → Prop, (∀ σ' H', N σ' H' → ∃ m', m' < m ∧ W (i + 1) m' σ' H') ∧ ∀ x H', J.yld i H x H' → g x σ H' fun σ2 H2 => tt σ2 H2 fun b H3 => if b = true then tr σ2 H3 N else N σ2 H3)
theorem comp_loop {X : Cx} (hE : X.xe = fun _ _ => False) (hc : X.calm = true) {e : Expr} {d : Nat} {tg iter : Expr} {ifs : List Expr} {acc : Value} {rest : Sem Unit} {g : TG} {tt : TT} {tr : TR} {J : It} {fp : List Addr} {it : Addr} {tn : Nat → Heap → Prop}
    (heq : compTurn e d (.ref it) acc X.env = (do
      standAt iter.pos
      match ← pyNext (.ref it) with
      | none => pure (.done .next)
      | some v =>
        letOwnedTupleGo tg (.ref it) v
        assign tg X.env v
        let mut ok := true
        for c in ifs do
          if ok then ok ← isTrue c X.env (eval c X.env)
        if ok then rest
        again (.compLoop e d (.ref it) acc X.env)))
    (hq : (Code.compLoop e d (.ref it) acc X.env).quiet = true) (hu : X.A.under (.compLoop e d (.ref it) acc X.env) = X.A) (hden : (model X.prog X.w).den (.compLoop e d (.ref it) acc X.env) = (compTurn e d (.ref it) acc X.env).onRaise (fun x => do noteFrame x X.env; theTreesLotGoes x))
    (hg : PG X tg g) (ht : PTs X ifs tt) (hr : PR X rest tr) (T : Turn X.prog X.w X.K tg J fp it tn)
    {pins : List (Addr × Obj)} {σ : St} {H : Hp} {s : Shared} {Qe : St → Hp → Prop} {R : Result → Shared → Prop} (I : Inv X pins σ H s) (st : tn 0 s.heap) (f2 : ∀ b ∈ fp, FpOk X pins H b) (h : tLoop J g tt tr Qe σ H)
    (hR : ∀ s' σ' H', Inv X pins σ' H' s' → Qe σ' H' → R (.ok .next) s') :
    codeAny (model X.prog X.w) X.A (.compLoop e d (.ref it) acc X.env) R s := by
  obtain ⟨W, ⟨m0, w0⟩, turn⟩ := h
  have stat : ∀ {H' : Hp}, (∀ b ∈ fp, H' b = none) → ∀ b ∈ fp, FpOk X pins H' b := fun hn b hb => ⟨hn b hb, (f2 b hb).2⟩
  have no : ∀ {α : Type} {t : Sem α} {Q : α → Shared → Prop} {s : Shared} {E : Value → Shared → Prop}, wpAny (model X.prog X.w) X.A t Q X.xe s → wpAny (model X.prog X.w) X.A t Q E s := fun {α t Q s E} h =>
    wpAny_mono h (fun _ _ x => x) fun _ _ x => by rw [hE] at x; exact x.elim
  refine codeAny_loop hq (fun n s' => ∃ i σ' H', Inv X pins σ' H' s' ∧ tn i s'.heap ∧ (∀ b ∈ fp, H' b = none) ∧ W i n σ' H') (fun n s3 hI => ?_) m0 ⟨0, σ, H, I, st, fun b hb => (f2 b hb).1, w0⟩
  rw [hu, hden]
  refine wpAny_noted ?_
  rw [heq]
  obtain ⟨i, σ3, H3, I3, st3, fr3, w3⟩ := hI
  refine wpAny_bind (wpAny_standAt (wpAny_bind ?_))
  rcases turn i n σ3 H3 w3 with ⟨stop, qn⟩ | ⟨go, N, hN, step⟩
  · refine no (thn (T.done X rfl rfl rfl hc i pins s3 σ3 H3 X.xe I3 (stat fr3) st3 stop) fun r s4 ⟨hr4, I4⟩ => ?_)
    subst hr4
    exact wpAny_pure (hR _ _ _ I4 qn)
  · refine no (thn (T.item X rfl rfl rfl hc i pins s3 σ3 H3 X.xe I3 (stat fr3) st3 go) fun r s4 ⟨u, hr4, h4⟩ => ?_)
    subst hr4
    refine wpAny_bind (no (thn h4 fun _ s5 ⟨x, H5, I5, r5, y5, st5, fr5⟩ => ?_))
    have I5' := I5.pinned (stat fr5) (T.obj _ _ st5)
    refine wpAny_bind (no (thn (hg _ s5 σ3 H5 x u _ I5' r5 (step x H5 y5)) fun _ s6 ⟨σ6, H6, I6, q6⟩ => ?_))
    have again : ∀ {σ7 : St} {H7 : Hp} {s7 : Shared}, Inv X (pins ++ pinsAt fp s5.heap) σ7 H7 s7 → N σ7 H7 → ∃ m, m < n ∧ ∃ i σ' H', Inv X pins σ' H' s7 ∧ tn i s7.heap ∧ (∀ b ∈ fp, H' b = none) ∧ W i m σ' H' := fun {σ7 H7 s7} I7 n7 => by
      obtain ⟨m', hm, w7⟩ := hN σ7 H7 n7
      refine ⟨m', hm, i + 1, σ7, H7, I7.unpinned, T.keep _ _ _ st5 fun b hb o e => (I7.pin (b, o) (List.mem_append_right _ (List.mem_append_right _ (mem_pinsAt hb e)))).1, fun b hb => ?_, w7⟩
      obtain ⟨o, e, dd⟩ := T.obj _ _ st5 b hb
      exact (I7.pin (b, o) (List.mem_append_right _ (List.mem_append_right _ (mem_pinsAt hb e)))).2.1
    refine wpAny_bind (no (thn (ht _ s6 σ6 H6 _ I6 q6) fun ok s7 ⟨H7, I7, q7⟩ => ?_))
    cases ok with
    | false =>
      rw [if_neg (by simp)] at q7
      exact wpAny_pure ⟨rfl, again I7 q7⟩
    | true =>
      rw [if_pos rfl] at q7
      refine wpAny_bind (no (thn (hr _ s7 σ6 H7 _ I7 q7) fun _ s8 ⟨σ8, H8, I8, q8⟩ => ?_))
      exact wpAny_pure ⟨rfl, again I8 q8⟩
end L2
namespace L2
open PySem PySem.Spec PyProof.Rows
def tApp (p : Addr) (te : TE) : TR := fun σ H N => te σ H fun v H5 => ∃ ys, H5 p = some (.lst ys) ∧ ys.length < sizeLine ∧ N σ (upd H5 p (.lst (ys ++ [v])))
theorem pr_app {X : Cx} {elt : Expr} {te : TE} {p : Addr} (he : PE X elt te) : PR X (do let _ ← call (.builtin "list.append") [.ref p, ← eval elt X.env]) (tApp p te) := by
  intro pins s σ H N I h
  refine wpAny_bind (thn (he pins s σ H _ I h) fun u s1 ⟨v, H1, I1, r1, ys, hp, hl, q1⟩ => ?_)
  refine wpAny_bind (thn (mt_append pins s1 σ H1 (.ref p) [v] _ [u] (fun _ H2 => N σ H2) I1 rfl (.cons r1 .nil) ⟨p, ys, v, rfl, rfl, hp, hl, q1⟩) fun _ s2 ⟨_, H2, I2, _, q2⟩ => ?_)
  exact wpAny_pure ⟨σ, H2, I2, q2⟩
def capSt (σ : St) : List (Option Nat) → St
  | [] => []
  | none :: js => none :: capSt σ js
  | some j :: js => (σ[j]?).join :: capSt σ js
def CapsOk (X : Cx) (sc : Scope) : List Str → List (Option Nat) → Prop
  | [], [] => True
  | _ :: xs, none :: js => CapsOk X sc xs js
  | x :: xs, some j :: js => X.N[j]? = some x ∧ Vis X.env.scope x ∧ sc.names.lookup x = some .free ∧ CapsOk X sc xs js
  | _, _ => False
theorem CapsOk.len {X : Cx} {sc : Scope} {σ : St} : ∀ {N' : List Str} {js : List (Option Nat)}, CapsOk X sc N' js → (capSt σ js).length = N'.length
  | [], [], _ => rfl
  | _ :: xs, none :: js, h => by simp only [capSt, List.length_cons]; rw [CapsOk.len (N' := xs) (js := js) h]
  | x :: xs, some j :: js, h => by simp only [capSt, List.length_cons]; rw [CapsOk.len (N' := xs) (js := js) h.2.2.2]
  | [], _ :: _, h => by cases h
  | _ :: _, [], h => by cases h
theorem CapsOk.get {X : Cx} {sc : Scope} {σ : St} : ∀ {N' : List Str} {js : List (Option Nat)} {i : Nat} {x : Str} {v : V}, CapsOk X sc N' js → N'[i]? = some x → (capSt σ js)[i]? = some (some v) →
    ∃ j : Nat, X.N[j]? = some x ∧ σ[j]? = some (some v) ∧ Vis X.env.scope x ∧ sc.names.lookup x = some .free
  | [], [], i, x, v, _, h1, _ => by simp at h1
  | y :: xs, none :: js, 0, x, v, h, h1, h2 => by simp [capSt] at h2
  | y :: xs, none :: js, i + 1, x, v, h, h1, h2 => CapsOk.get (N' := xs) (js := js) (i := i) h (by simpa using h1) (by simpa [capSt] using h2)
  | y :: xs, some j :: js, 0, x, v, h, h1, h2 => by
    have e1 : y = x := by simpa using h1
    subst e1
    refine ⟨j, h.1, ?_, h.2.1, h.2.2.1⟩
    have e2 : (σ[j]?).join = some v := by simpa [capSt] using h2
    cases q : σ[j]? with
    | none => rw [q] at e2; cases e2
    | some o => rw [q] at e2; exact congrArg some e2
  | y :: xs, some j :: js, i + 1, x, v, h, h1, h2 => CapsOk.get (N' := xs) (js := js) (i := i) h.2.2.2 (by simpa using h1) (by simpa [capSt] using h2)
  | [], _ :: _, _, _, _, h, _, _ => by cases h
  | _ :: _, [], _, _, _, h, _, _ => by cases h
def tComp (js : List (Option Nat)) (wi : TI) (g : TG) (tt : TT) (te : TE) : TE := fun σ H Q => wi σ H fun J H1 => ∀ p, H1 p = none → tLoop J g tt (tApp p te) (fun _ H' => Q (.ref p) H') (capSt σ js) (upd H1 p (.lst []))
section
variable {X : Cx} {elt tg iter : Expr} {ifs : List Expr} {sc : Scope} {pos : Pos} {N' : List Str} {js : List (Option Nat)} {wi : TI} {g : TG} {tt : TT} {te : TE}
theorem comp1_block (hc : X.calm = true) (B : BlkOk X sc) (C : CapsOk X sc N' js) {cl : List (Str × Addr)}
    (c1 : ∀ x c, cl.lookup x = some c → X.env.cells.lookup x = some c) (c2 : ∀ x ∈ sc.names, x.2 = .free → ∃ c, cl.lookup x.1 = some c)
    (hg : ∀ cl s H fp, PG (X.blk sc cl N' s H fp) tg g) (ht : ∀ cl s H fp, PTs (X.blk sc cl N' s H fp) ifs tt) (he : ∀ cl s H fp, PE (X.blk sc cl N' s H fp) elt te)
    {pins : List (Addr × Obj)} {σ : St} {H : Hp} {s : Shared} {Qe : Addr → Hp → Prop} {it : Addr} {fp : List Addr} {tn : Nat → Heap → Prop} {J : It} {RR : Value → Addr → Result → Shared → Prop}
    (I : Inv X pins σ H s) (T : Turn X.prog X.w X.K tg J fp it tn) (st : tn 0 s.heap) (hf : ∀ b ∈ fp, FpOk X pins H b)
    (h : ∀ p, H p = none → tLoop J g tt (tApp p te) (fun _ H' => Qe p H') (capSt σ js) (upd H p (.lst [])))
    (hRR : ∀ p C s' H', C ≠ p → (∀ b o, s.heap.get? b = some o → b ≠ C) → H' C = none → (∃ m, s'.heap.Ns C m) → Qe p H' → (∀ h'', Heap.SameBut C s'.heap h'' → Inv X pins σ H' { s' with heap := h'' }) → FpOk X pins H' C → RR (.ref p) C (.ok .next) s') :
    wpAny (model X.prog X.w) X.A (newList []) (fun acc s₃ => wpAny (model X.prog X.w) X.A (newFunctionEnv sc X.env.globals cl [] X.env.qual none .none (some X.env)) (fun cenv s₄ =>
      codeAny (model X.prog X.w) X.A (.compStart (.ListComp elt [⟨tg, iter, ifs, 0⟩] sc pos) 0 (.ref it) acc { cenv with scope := relabel sc X.env }) (RR acc cenv.locals) s₄) X.xe s₃) X.xe s := by
  refine wpAny_newObj_type ?_
  have I3 := I.lnew (ys := []) (its := []) (t' := s.toks) .nil (by simp)
  generalize hs3 : ({ s with heap := s.heap.push { cls := .type "list", data := .seq ([] : List Value).toArray }, toks := s.toks } : Shared) = s3 at I3
  have hp : H s.heap.objs.size = none := I.fresh
  have h3 := h _ hp
  have f3 : ∀ b ∈ fp, FpOk X pins (upd H s.heap.objs.size (.lst [])) b ∧ b < s3.heap.objs.size := fun b hb => by
    obtain ⟨f0, f1⟩ := hf b hb
    obtain ⟨o, e, _⟩ := T.obj _ _ st b hb
    have lt := Heap.lt_size e
    refine ⟨⟨by rw [upd_ne (Nat.ne_of_lt lt)]; exact f0, f1⟩, ?_⟩
    rw [← hs3]
    show b < (s.heap.push _).objs.size
    rw [Heap.size_push]
    exact Nat.lt_succ_of_lt lt
  have hsz : s3.heap.objs.size = s.heap.objs.size + 1 := by rw [← hs3]; exact Heap.size_push ..
  have hst3 : tn 0 s3.heap := by rw [← hs3]; exact T.keep _ _ _ st fun b hb o e => Heap.get?_push_of_some _ e
  refine wpAny_newFunctionEnv B.nocell (by intro y hy; simp at hy) (fun h₁ hns₁ hsb₁ => ?_) B.kind
  have J4 := blk_start (cl := cl) (N' := N') (σ' := capSt σ js) (tk := s3.toks + ([] : List (Str × Value)).length) I3 B c1 c2 f3 C.len (fun i x v e1 e2 _ => C.get e1 e2) (show h₁.Ns s3.heap.objs.size (fun _ => none) from hns₁) (show Heap.SameBut s3.heap.objs.size (s3.heap.push { cls := .type "dict", data := .dict #[] }) h₁ from hsb₁)
  have hst4 : tn 0 h₁ := T.keep _ _ _ hst3 fun b hb o e => (hsb₁.2 b (Nat.ne_of_lt (Heap.lt_size e))).trans (Heap.get?_push_of_some _ e)
  have f4 : ∀ b ∈ fp, FpOk (X.blk sc cl N' s3 (upd H s.heap.objs.size (.lst [])) fp) [] (upd H s.heap.objs.size (.lst [])) b := fun b hb => by
    obtain ⟨⟨g0, g1, g2, g3, g4, g5⟩, lt⟩ := f3 b hb
    refine ⟨g0, Nat.ne_of_lt lt, fun z => ?_, .inl hb, fun x c e => g4 x c (c1 x c e), fun p hp => absurd (show p ∈ ([] : List (Addr × Obj)) from hp) (by simp)⟩
    rcases List.mem_cons.mp (I3.stkSub b z) with z | z
    · exact g1 z
    · exact g2 z
  have loop : codeAny (model X.prog X.w) X.A (.compLoop (.ListComp elt [⟨tg, iter, ifs, 0⟩] sc pos) 0 (.ref it) (.ref s.heap.objs.size) (compEnvC sc cl s3.heap.objs.size X.env)) (RR (.ref s.heap.objs.size) s3.heap.objs.size) { s3 with heap := h₁, toks := s3.toks + ([] : List (Str × Value)).length } := by
    refine comp_loop (X := X.blk sc cl N' s3 (upd H s.heap.objs.size (.lst [])) fp) rfl hc (compTurn_list ..) rfl rfl rfl (hg _ _ _ _) (ht _ _ _ _) (pr_app (he _ _ _ _)) T J4 hst4 f4 h3 fun s' σ' H' J' q => ?_
    have hend : ∀ h'', Heap.SameBut s3.heap.objs.size s'.heap h'' → Inv X pins σ H' { s' with heap := h'' } := fun h'' hs'' => blk_end I3 f3 J' hs''
    obtain ⟨m, hn, _⟩ := J'.loc
    refine hRR _ _ _ H' (by rw [hsz]; exact Nat.succ_ne_self _) (fun b o e => ?_) J'.free ⟨m, hn⟩ q hend (I3.fpOk (Nat.le_refl _) J'.free)
    rw [hsz]
    exact Nat.ne_of_lt (Nat.lt_succ_of_lt (Heap.lt_size e))
  exact codeAny_compStart_list loop (T.self _ 0 _ _ _ hst4 loop)
theorem pe_comp1 (hE : X.xe = fun _ _ => False) (hc : X.calm = true) (B : BlkOk X sc) (C : CapsOk X sc N' js) (hi : PI X tg iter wi) (hg : ∀ cl s H fp, PG (X.blk sc cl N' s H fp) tg g) (ht : ∀ cl s H fp, PTs (X.blk sc cl N' s H fp) ifs tt) (he : ∀ cl s H fp, PE (X.blk sc cl N' s H fp) elt te)
    (hs : ∀ x, foldedSetIterable iter X.env x = pure x := by intro _; rfl) : PE X (.ListComp elt [⟨tg, iter, ifs, 0⟩] sc pos) (tComp js wi g tt te) := by
  intro pins s σ H Q I h
  obtain ⟨cl, hcl, c1, c2⟩ := closure_ok X.env sc fun x hx hfr => I.ok.has x.1 (.inl (B.free x hx hfr))
  rw [eval_ListComp]
  refine wpAny_comprehension_free (use := none) rfl hs hcl B.kind B.names (thn (hi pins s σ H _ I h) fun v s1 h1 => thn h1 fun itv s2 h2 => ?_)
  obtain ⟨it, fp, tn, J, H2, e, I2, T, st2, f2, h2⟩ := h2
  subst e
  refine comp1_block (Qe := fun p H' => Q (.ref p) H') (RR := fun acc C => compPost (model X.prog X.w) X.A X.xe none (EP X pins σ Q) acc C) hc B C c1 c2 hg ht he I2 T st2 f2 h2 ?_
  intro p C s' H' hne hold hfree hns q hend _
  obtain ⟨m, hn⟩ := hns
  exact ⟨m, hn, fun h'' hs'' => ⟨.ref p, H', hend h'' hs'', rfl, q⟩⟩
def tSetComp (i : Nat) (js : List (Option Nat)) (wi : TI) (g : TG) (tt : TT) (te : TE) : TS := fun D σ H => tComp js wi g tt te σ H fun v H' => D.nx (σ.set i (some v)) H'
theorem ps_setcomp1 {i : Nat} {y : Str} {py spos : Pos} (hE : X.xe = fun _ _ => False) (hc : X.calm = true) (hN : X.N.Nodup) (hi' : X.N[i]? = some y) (hx : Loc X.env.scope y) (B : BlkOk X sc) (C : CapsOk X sc N' js) (hi : PI X tg iter wi) (hg : ∀ cl s H fp, PG (X.blk sc cl N' s H fp) tg g) (ht : ∀ cl s H fp, PTs (X.blk sc cl N' s H fp) ifs tt) (he : ∀ cl s H fp, PE (X.blk sc cl N' s H fp) elt te)
    (hsw : swapsWith (.ListComp elt [⟨tg, iter, ifs, 0⟩] sc pos) (some (.Name y py)) spos.line X.env = pure true := by rfl)
    (hs : ∀ x, foldedSetIterable iter X.env x = pure x := by intro _; rfl) (hf : X.fn y = true ∨ X.env.scope.names.lookup y = some .local := by first | exact .inl rfl | exact .inr rfl | assumption) : PS X (.Assign [.Name y py] (.ListComp elt [⟨tg, iter, ifs, 0⟩] sc pos) spos) (tSetComp i js wi g tt te) := by
  intro pins s σ H D I h
  obtain ⟨cl, hcl, c1, c2⟩ := closure_ok X.env sc fun x hx hfr => I.ok.has x.1 (.inl (B.free x hx hfr))
  rw [exec_Assign_Name_used _ _ _ _ hsw]
  refine wpAny_bind (wpAny_standAt (wpAny_bind ?_))
  show wpAny _ X.A (do let _ ← comprehension (.ListComp elt [⟨tg, iter, ifs, 0⟩] sc pos) sc X.env _ (newList []) false (eval iter X.env) (some (assign (.Name y py) X.env))) _ _ s
  refine wpAny_bind (thn (wpAny_comprehension_free (use := some (assign (.Name y py) X.env)) (Q := fun _ s' => SP X pins D .next s') rfl hs hcl B.kind B.names (thn (hi pins s σ H _ I h) fun v s1 h1 => thn h1 fun itv s2 h2 => ?_)) fun _ s' hq => wpAny_pure (wpAny_pure hq))
  obtain ⟨it, fp, tn, J, H2, e, I2, T, st2, f2, h2⟩ := h2
  subst e
  refine comp1_block (Qe := fun p H' => D.nx (σ.set i (some (.ref p))) H') (RR := fun acc C => compPost (model X.prog X.w) X.A X.xe (some (assign (.Name y py) X.env)) (fun _ s' => SP X pins D .next s') acc C) hc B C c1 c2 hg ht he I2 T st2 f2 h2 ?_
  intro p C s' H' hne hold hfree hns q hend fpC
  obtain ⟨m, hn⟩ := hns
  have I4 : Inv X pins σ H' s' := hend s'.heap (.refl ..)
  obtain ⟨f0, f1, f2', f3, f4, f5⟩ := fpC
  show wpAny _ X.A (assign (.Name y py) X.env (.ref p)) _ _ s'
  refine wpAny_assign_Name (store_ok2 (v := .ref p) I4 hN hi' hx rfl (fun s'' I5 ⟨a, hsa, ha⟩ => ?_) hf)
  have hCa : C ≠ a := by
    rcases ha with rfl | ha
    · exact f1
    · exact fun z => f4 y a ha z.symm
  refine ⟨m, hn.sameBut hsa hCa, fun h'' hs'' => ⟨_, H', I5.turned (t' := s''.toks) (it := C) (fun b o hb e => (hs''.2 b hb).trans e) f0 f1 f3 f4 f5, q⟩⟩
end
end L2
namespace L2
open PySem PySem.Spec PyProof.Rows
section
variable {X : Cx} {e : Expr} {tg : Expr} {sc : Scope} {N' : List Str} {js : List (Option Nat)}
end
end L2
namespace L2
open PySem PySem.Spec PyProof.Rows
section
variable {X : Cx}
theorem vals_bl : ∀ {bs : List Bool} {us : List Value}, Vals (bs.map V.bl) us → us = bs.map Value.bool
  | [], _, .nil => rfl
  | b :: bs, _, .cons r t => by
    have e := vals_bl (bs := bs) t
    cases r
    rw [e]
    rfl
theorem truth_bl {prog : Program} {w : World} {A : Around} (bs : List Bool) : TruthOf prog w A (fun i v => (bs.map Value.bool).toArray[i]? = some v) (fun i => bs.getD i false) := by
  intro i v s Q E hP hQ
  have e : (bs.map Value.bool)[i]? = some v := by simpa using hP
  rw [List.getElem?_map] at e
  cases hb : bs[i]? with
  | none => rw [hb] at e; cases e
  | some b =>
    rw [hb] at e
    cases e
    have : bs.getD i false = b := by rw [List.getD_eq_getElem?_getD, hb]; rfl
    have hQ' : Q (bs.getD i false) s := hQ
    rw [this] at hQ'
    exact wpAny_truthy_bool hQ'
theorem range_any (bs : List Bool) : (List.range bs.length).any (fun i => bs.getD i false) = bs.any id := by
  rw [Bool.eq_iff_iff, List.any_eq_true, List.any_eq_true]
  constructor
  · rintro ⟨i, hi, h⟩
    have hi := List.mem_range.mp hi
    exact ⟨bs[i], List.getElem_mem hi, by simpa [hi] using h⟩
  · rintro ⟨b, hb, h⟩
    obtain ⟨i, hi, rfl⟩ := List.mem_iff_getElem.mp hb
    exact ⟨i, List.mem_range.mpr hi, by simpa [hi] using h⟩
theorem call_any (hc : X.calm = true) : CallR X (.builtin "any") (fun xs H Q => ∃ (p : Addr) (bs : List Bool), xs = [.ref p] ∧ SqL X.K H p (bs.map V.bl) ∧ Q (.bl (bs.any id)) H) := by
  intro pins s σ H xs us Q I r h
  obtain ⟨p, bs, rfl, hq, q⟩ := h
  obtain ⟨u, rfl, ru⟩ := vals1 r
  cases ru
  obtain ⟨its, rv, pl, hz⟩ := I.list hq
  have e := vals_bl rv
  subst e
  have lt : p < s.heap.objs.size := by obtain ⟨o, n, e, _⟩ := pl; exact Heap.lt_size e
  refine call_any_walk (wpAny_pyIter_list pl.isList ⟨s.heap.objs.size, _, [s.heap.objs.size], _, _, _, fun i => bs.getD i false, rfl, Walks.list (A := X.A.in1) (show X.A.in1.handled = none from I.ok.hd hc) _ p (Nat.ne_of_lt lt) (bs.map Value.bool).toArray, ⟨⟨_, Heap.get?_push_size _ rfl, rfl, rfl⟩, ?_⟩, truth_bl bs, fun h' tk hk => ?_⟩)
  · exact pl.isList.at fun o e => Heap.get?_push_of_some _ e
  · have el : (bs.map Value.bool).toArray.size = bs.length := by simp
    rw [el, range_any]
    refine ⟨.bl _, H, I.kept (t' := tk) fun b o e => hk b o ?_ (Heap.get?_push_of_some _ e), rfl, q⟩
    intro hb
    have e2 : b = s.heap.objs.size := by simpa using hb
    exact absurd (e2 ▸ Heap.lt_size e) (Nat.lt_irrefl _)
def stAt (x y : Str) (k : Nat) : Bool := decide (k + y.length ≤ x.length) && Builtin.Str.subAt x y k
theorem mt_startswith : MtR X "str.startswith" (fun x vs H Q => ∃ a b, x = .str a ∧ vs = [.str b] ∧ Q (.bl (stAt a b 0)) H) := by
  intro pins s σ H x vs v us Q I rx rv h
  obtain ⟨a, b, rfl, rfl, q⟩ := h
  obtain ⟨t, rfl⟩ := rx
  obtain ⟨u, rfl, t', rfl⟩ := rv.one
  exact call_gives F.slot_str_startswith (typeIs_str s a t) F.entry_str_startswith (F.args_str_startswith_2 _ _) (gives_str_startswith a b t t') ⟨.bl _, H, I, rfl, q⟩
theorem call_isinst : CallR X (.builtin "isinstance") (fun xs H Q => ∃ x n t b, xs = [x, .ty n] ∧ TyOf X.K H x t ∧ PySem.W.kitOne X.K t (.type n) = some b ∧ Q (.bl b) H) := by
  intro pins s σ H xs us Q I r h
  obtain ⟨x, n, t, b, rfl, ty, e, q⟩ := h
  obtain ⟨u, u2, rfl, ru, rt⟩ := vals2 r
  cases rt
  exact isinst_ok I ru ty e fun tk => ⟨.bl b, H, I.tok tk, rfl, q⟩
end
end L2
namespace L2
open PySem PySem.Spec PyProof.Rows
section
variable {X : Cx} {e : Expr} {tg : Expr} {sc : Scope} {N' : List Str} {js : List (Option Nat)}
end
end L2
namespace L2
open PySem PySem.Spec PyProof.Rows
def ddS (acc : List Str) (x : Str) : List Str := if x ∈ acc then acc else acc ++ [x]
def dd (xs : List Str) : List Str := xs.foldl ddS []
theorem dd_snoc (xs : List Str) (x : Str) : dd (xs ++ [x]) = ddS (dd xs) x := by unfold dd; rw [List.foldl_append]; rfl
theorem mem_ddS {acc : List Str} {x k : Str} : k ∈ ddS acc x ↔ k ∈ acc ∨ k = x := by
  unfold ddS
  split
  · constructor
    · exact .inl
    · rintro (h | rfl)
      · exact h
      · assumption
  · simp
theorem mem_foldl {xs : List Str} : ∀ {acc : List Str} {k : Str}, k ∈ xs.foldl ddS acc ↔ k ∈ acc ∨ k ∈ xs := by
  induction xs with
  | nil => intro acc k; simp
  | cons x r ih =>
    intro acc k
    rw [List.foldl_cons, ih, mem_ddS]
    simp only [List.mem_cons]
    constructor
    · rintro ((h | h) | h)
      · exact .inl h
      · exact .inr (.inl h)
      · exact .inr (.inr h)
    · rintro (h | h | h)
      · exact .inl (.inl h)
      · exact .inl (.inr h)
      · exact .inr h
theorem mem_dd {xs : List Str} {k : Str} : k ∈ dd xs ↔ k ∈ xs := by unfold dd; rw [mem_foldl]; simp
theorem len_ddS (acc : List Str) (x : Str) : (ddS acc x).length = if x ∈ acc then acc.length else acc.length + 1 := by
  unfold ddS
  split <;> simp
theorem len_foldl : ∀ (xs acc : List Str), (xs.foldl ddS acc).length ≤ acc.length + xs.length ∧ ((xs.foldl ddS acc).length = acc.length + xs.length ↔ (xs.Nodup ∧ ∀ x ∈ xs, x ∉ acc))
  | [], acc => by simp
  | x :: r, acc => by
    obtain ⟨h1, h2⟩ := len_foldl r (ddS acc x)
    rw [List.foldl_cons]
    have h3 := len_ddS acc x
    simp only [List.length_cons]
    by_cases hx : x ∈ acc
    · rw [if_pos hx] at h3
      refine ⟨by omega, ⟨fun h => by omega, fun ⟨_, h⟩ => absurd hx (h x List.mem_cons_self)⟩⟩
    · rw [if_neg hx] at h3
      refine ⟨by omega, ?_⟩
      constructor
      · intro h
        obtain ⟨a, b⟩ := h2.mp (by omega)
        refine ⟨List.nodup_cons.mpr ⟨fun hm => b x hm (mem_ddS.mpr (.inr rfl)), a⟩, fun y hy => ?_⟩
        rcases List.mem_cons.mp hy with rfl | hy
        · exact hx
        · exact fun hm => b y hy (mem_ddS.mpr (.inl hm))
      · rintro ⟨a, b⟩
        obtain ⟨a1, a2⟩ := List.nodup_cons.mp a
        have := h2.mpr ⟨a2, fun y hy hm => by
          rcases mem_ddS.mp hm with h | h
          · exact b y (List.mem_cons_of_mem _ hy) h
          · exact a1 (h ▸ hy)⟩
        omega
theorem dd_len (xs : List Str) : (dd xs).length ≤ xs.length := by have := (len_foldl xs []).1; simpa [dd] using this
theorem dd_all (xs : List Str) : (dd xs).length = xs.length ↔ xs.Nodup := by
  have := (len_foldl xs []).2
  simpa [dd] using this
def setL (P : Program) (w : World) (p : Addr) (xs : List Str) : HO := .ext fun h => h.SetOf (strKind P w) p (fun k => decide (k ∈ xs)) (dd xs).length
theorem setL_ok {P : Program} {w : World} {H : Hp} {h : Heap} {p : Addr} {xs : List Str} (hS : h.SetOf (strKind P w) p (fun k => decide (k ∈ xs)) (dd xs).length) : ObjOk P w H h p (setL P w p xs) := by
  refine ⟨hS, ?_, fun h1 h2 q k => ?_⟩
  · obtain ⟨o, _, _, _, e, _⟩ := hS
    exact ⟨o, e⟩
  · obtain ⟨o, es, ep, t, e, r⟩ := q
    exact ⟨o, es, ep, t, k o e, r⟩
theorem setL_add (xs : List Str) (x : Str) : (fun k => decide (k ∈ xs) || decide (k = x)) = fun k => decide (k ∈ xs ++ [x]) := by
  funext k
  rw [Bool.eq_iff_iff]
  simp
theorem setL_len (xs : List Str) (x : Str) : (if decide (x ∈ xs) = true then (dd xs).length else (dd xs).length + 1) = (dd (xs ++ [x])).length := by
  rw [dd_snoc, len_ddS]
  by_cases h : x ∈ xs
  · rw [if_pos (decide_eq_true h), if_pos (mem_dd.mpr h)]
  · rw [if_neg (by simp [h]), if_neg (fun z => h (mem_dd.mp z))]
section
variable {X : Cx}
theorem call_len_setL : CallR X (.builtin "len") (fun vs H Q => ∃ p xs, vs = [.ref p] ∧ H p = some (setL X.prog X.w p xs) ∧ Q (.int (dd xs).length) H) := by
  intro pins s σ H vs us Q I r h
  obtain ⟨p, xs, rfl, hp, q⟩ := h
  obtain ⟨u, rfl, ru⟩ := vals1 r
  cases ru
  obtain ⟨hS, _, _⟩ := I.hok p _ hp
  obtain ⟨o, es, ep, t, e, hex, hd, _, _, hb, hf, hn⟩ := (show s.heap.SetOf (strKind X.prog X.w) p (fun k => decide (k ∈ xs)) (dd xs).length from hS)
  refine call_len_set e hex hd hf (by unfold scanBound at hb; omega) ?_
  rw [hn]
  exact ⟨.int _, H, I.tok _, ⟨_, rfl⟩, q⟩
end
end L2
namespace L2
open PySem PySem.Spec PyProof.Rows
theorem upd_loopT {P : Program} {w : World} {A : Around} {R : Result → Shared → Prop} {I S l : Addr} {its : List Value} {xs : List Str} (hh : A.in1.handled = none) (hlI : l ≠ I) (hSI : S ≠ I) (hSl : S ≠ l) (hv : ∀ (i : Nat) v, its[i]? = some v → ∃ x t, xs[i]? = some x ∧ v = .str x t) (hlen : its.length = xs.length) (hb : xs.length + 1 < scanBound) :
    ∀ (k i : Nat) (s : Shared), xs.length - i = k → i ≤ xs.length → s.heap.IsListIter I l i → s.heap.IsList l its.toArray → s.heap.SetOf (PySem.strKind P w) S (fun k' => decide (k' ∈ xs.take i)) (dd (xs.take i)).length →
      (∀ h' tk, (∀ b o, b ≠ S → b ≠ I → s.heap.get? b = some o → h'.get? b = some o) → h'.SetOf (PySem.strKind P w) S (fun k' => decide (k' ∈ xs)) (dd xs).length → R (.ok (.ret .none)) { s with heap := h', toks := tk }) →
      codeAny (model P w) A (.builtin "set.update.loop" ⟨[.ref S, .ref I], []⟩) R s := by
  intro k
  induction k with
  | zero =>
    intro i s hk hi it ls hS hR
    have e : i = xs.length := by omega
    subst e
    refine codeAny_builtin PyProof.Rows.F.entry_set_update_loop ?_
    rw [Around.under_plainId PyProof.Rows.F.plain_set_update_loop _]
    show wpAny _ A.in1 (pyNext (.ref I) >>= _) _ _ s
    refine wpAny_bind (wpAny_pyNext_list_end hh it ls (by simp [hlen]) fun h' eb => ?_)
    show wpAny _ A.in1 (ret Value.none) _ _ _
    refine wpAny_pure (hR h' s.toks (fun b o _ h2 e => eb b o h2 e) ?_)
    rw [List.take_length] at hS
    obtain ⟨o, es, ep, t, ho, rest⟩ := hS
    exact ⟨o, es, ep, t, eb S o hSI ho, rest⟩
  | succ k ih =>
    intro i s hk hi it ls hS hR
    have lt : i < xs.length := by omega
    have lt' : i < its.length := by omega
    refine codeAny_builtin PyProof.Rows.F.entry_set_update_loop ?_
    rw [Around.under_plainId PyProof.Rows.F.plain_set_update_loop _]
    show wpAny _ A.in1 (pyNext (.ref I) >>= _) _ _ s
    refine wpAny_bind (wpAny_pyNext_list_item it ls (x := its[i]) (by simp [lt']) fun h' it' sb => ?_)
    obtain ⟨x, t, hx, ev⟩ := hv i its[i] (by simp [lt'])
    rw [ev]
    have hS1 : h'.SetOf (PySem.strKind P w) S (fun k' => decide (k' ∈ xs.take i)) (dd (xs.take i)).length := by
      obtain ⟨o, es, ep, tb, ho, rest⟩ := hS
      exact ⟨o, es, ep, tb, (sb.2 S hSI).trans ho, rest⟩
    have ls1 : h'.IsList l its.toArray := ls.extBut sb.extBut hlI
    show wpAny _ A.in1 (holding [Value.str x t] (setAdd S (.str x t)) >>= _) _ _ { s with heap := h' }
    refine wpAny_bind (wpAny_holding ?_)
    unfold setAdd
    refine wpAny_holding ?_
    have hkey : (PySem.strKind P w).is x (.str x t) = true := by simp [PySem.strKind, Value.isStrOf]
    refine wpAny_bind ((PySem.strKind P w).pyHash hkey ?_)
    have hroom : (dd (xs.take i)).length + 1 < scanBound := by
      have := dd_len (xs.take i)
      rw [List.length_take] at this
      omega
    refine wpAny_setAddHashed_of (knd := PySem.strKind P w) (s := { s with heap := h', toks := s.toks + 1 }) hkey rfl hS1 hroom fun h2 sb2 hS2 => ?_
    have et : xs.take i ++ [x] = xs.take (i + 1) := by rw [List.take_add_one, hx]; rfl
    have hS3 : h2.SetOf (PySem.strKind P w) S (fun k' => decide (k' ∈ xs.take (i + 1))) (dd (xs.take (i + 1))).length := by
      rw [← et]
      exact SetOf_congr hS2 (fun k' => congrFun (setL_add (xs.take i) x) k') (setL_len (xs.take i) x)
    refine wpAny_pure ⟨plainId_quiet PyProof.Rows.F.plain_set_update_loop _, ih (i + 1) _ (by omega) lt (it'.extBut sb2.extBut (Ne.symm hSI)) (ls1.extBut sb2.extBut (Ne.symm hSl)) hS3 fun h3 tk q hS4 => ?_⟩
    exact hR h3 tk (fun b o h1 h2' e => q b o h1 h2' ((sb2.2 b h1).trans ((sb.2 b h2').trans e))) hS4
end L2
namespace L2
open PySem PySem.Spec PyProof.Rows
section
variable {prog : Program} {w : World} {A : Around} {E : Value → Shared → Prop} {s : Shared}
set_option maxHeartbeats 3200000 in
theorem set_of_texts {l : Addr} {its : List Value} {xs : List Str} {Q : Value → Shared → Prop} (hh : A.handled = none) (hl : s.heap.IsList l its.toArray)
    (hv : ∀ (i : Nat) v, its[i]? = some v → ∃ x t, xs[i]? = some x ∧ v = .str x t) (hlen : its.length = xs.length) (hb : xs.length + 1 < scanBound)
    (h : ∀ (h' : Heap) (tk : Nat), h'.SetOf (PySem.strKind prog w) s.heap.objs.size (fun k' => decide (k' ∈ xs)) (dd xs).length →
      (∀ b o, s.heap.get? b = some o → h'.get? b = some o) → Q (.ref s.heap.objs.size) { s with heap := h', toks := tk }) :
    wpAny (model prog w) A (call (.type "set") [.ref l]) Q E s := by
  obtain ⟨c, tl, hmro⟩ := F.called_set.mro
  have hmade := F.called_set.made
  have hsub := F.called_set.sub
  refine wpAny_call (codeAny_of_tree ?_)
  show wpAny _ _ (callAny (.type "set") _) _ _ _
  refine wpAny_pure ⟨Code.quiet_builtin _ (by decide +kernel), codeAny_builtin F.entry_type_call ?_⟩
  rw [Around.under_plain (weight_type_call_type "set" [.ref l] []) rfl]
  have h1 := F.called_set.notType
  have h2 := F.called_set.canCreate
  have hct := F.typeCall_set_1 (.ref l)
  repeat (any_goals (first | assumption | wp_step))
  refine codeAny_mono (code_set_new_1 (.ref l) (E := E) (Q₁ := fun obj s₁ => ∃ led : Bool, obj = .ref s.heap.objs.size ∧ s₁ = { s with heap := s.heap.push { cls := .type "set", dict := none, data := .set #[] 0 (.fresh 0 0 led) } }) fun led => ⟨led, rfl, rfl⟩) fun r s₁ hr => ?_
  cases r with
  | error e => exact hr
  | ok fl =>
    cases fl with
    | ret obj =>
      obtain ⟨led, rfl, rfl⟩ := hr
      generalize hH1 : s.heap.push { cls := .type "set", dict := none, data := .set #[] 0 (.fresh 0 0 led) } = H1
      have hS : H1.get? s.heap.objs.size = some { cls := .type "set", dict := none, data := .set #[] 0 (.fresh 0 0 led) } := by rw [← hH1]; exact Heap.get?_push_size _ rfl
      have hold : ∀ b o, s.heap.get? b = some o → H1.get? b = some o := fun b o e => by rw [← hH1]; exact Heap.get?_push_of_some _ e
      have hsz : H1.objs.size = s.heap.objs.size + 1 := by rw [← hH1]; exact Heap.size_push ..
      have hT : Shared.TypeIs { s with heap := H1 } (.ref s.heap.objs.size) "set" := ⟨_, hS, rfl⟩
      have hli := F.called_set.init.lookup
      have hbi := F.called_set.init.bind (.ref s.heap.objs.size)
      repeat (any_goals (first | assumption | wp_step))
      refine codeAny_mono (codeAny_call_builtin (R := wants (fun r s₂ => r = .none ∧ ∃ h' tk, s₂ = { s with heap := h', toks := tk } ∧
          h'.SetOf (PySem.strKind prog w) s.heap.objs.size (fun k' => decide (k' ∈ xs)) (dd xs).length ∧ (∀ b o, s.heap.get? b = some o → h'.get? b = some o)) E) F.called_set.init.plain F.entry_set_init (check_set_init_1 hT ?_)) fun r₂ s₂ hr₂ => ?_
      · obtain ⟨ol, hol, hcl, nl, hdl⟩ := hl
        obtain ⟨ocls, odict, odata, oslots⟩ := ol
        simp only at hcl hdl
        subst hcl; subst hdl
        have hol' := hold _ _ hol
        have hsls := F.sub_list_set
        have hslf := F.sub_list_frozenset
        have hne : (Value.type "list" == Value.type "dict") = false := by decide
        have hl1 : H1.IsList l its.toArray := ⟨_, hol', rfl, nl, rfl⟩
        unfold Builtin.«set.__init__» noKeywords Builtin.Frozenset.updateFrom
        generalize hPI : pyIter = PI
        wp_walk
        subst hPI
        refine wpAny_pyIter_list hl1 ?_
        refine wpAny_bind (wpAny_runValue ?_)
        have hlS : l < s.heap.objs.size := Heap.lt_size hol
        have hh3 : A.in1.in1.in1.handled = none := by simp [hh]
        refine upd_loopT (P := prog) (w := w) (l := l) (its := its) (xs := xs) hh3 (by rw [hsz]; exact Nat.ne_of_lt (Nat.lt_succ_of_lt hlS)) (by rw [hsz]; exact Nat.ne_of_lt (Nat.lt_succ_self _)) (Nat.ne_of_gt hlS) hv hlen hb xs.length 0 _ (by omega) (Nat.zero_le _) ⟨_, Heap.get?_push_size _ rfl, rfl, rfl⟩ (hl1.push _) ?hS0 ?hR
        case hS0 =>
          exact SetOf_congr ((setObjOf_fresh (knd := PySem.strKind prog w) led).setOf (Heap.get?_push_of_some _ hS) (by unfold scanBound; omega)) (fun _ => by simp) rfl
        case hR =>
          intro h' tk' hk hS'
          show wpAny _ _ _ _ _ _
          refine wpAny_pure ?_
          show wpAny _ _ (ret Value.none) _ _ _
          refine wpAny_pure ⟨rfl, h', tk', rfl, hS', fun b o e => ?_⟩
          have lt := Heap.lt_size e
          exact hk b o (Nat.ne_of_lt lt) (by rw [hsz]; exact Nat.ne_of_lt (Nat.lt_succ_of_lt lt)) (Heap.get?_push_of_some _ (hold b o e))
      · cases r₂ with
        | error e => exact hr₂
        | ok fl₂ =>
          cases fl₂ with
          | ret r =>
            obtain ⟨rfl, h', tk, rfl, hS', hk'⟩ := hr₂
            repeat (any_goals (first | assumption | wp_step))
            exact h _ _ hS' hk'
          | _ => exact hr₂.elim
    | _ => exact hr.elim
end
theorem vals_strs : ∀ {xs : List Str} {us : List Value}, Vals (xs.map V.str) us → us.length = xs.length ∧ ∀ (i : Nat) v, us[i]? = some v → ∃ x t, xs[i]? = some x ∧ v = .str x t
  | [], _, .nil => ⟨rfl, fun i v e => by simp at e⟩
  | x :: xs, _, .cons r t => by
    obtain ⟨h1, h2⟩ := vals_strs (xs := xs) t
    obtain ⟨tk, rfl⟩ := r
    refine ⟨by simp [h1], fun i v e => ?_⟩
    cases i with
    | zero => simp at e; exact ⟨x, tk, by simp, e.symm⟩
    | succ i => simpa using h2 i v (by simpa using e)
theorem call_set_texts {X : Cx} (hc : X.calm = true) : CallR X (.type "set") (fun vs H Q => ∃ p xs, vs = [.ref p] ∧ SqL X.K H p (xs.map V.str) ∧ xs.length + 1 < scanBound ∧ ∀ q, H q = none → Q (.ref q) (upd H q (setL X.prog X.w q xs))) := by
  intro pins s σ H vs us Q I r h
  obtain ⟨p, xs, rfl, hq, hb, q⟩ := h
  obtain ⟨u, rfl, ru⟩ := vals1 r
  cases ru
  obtain ⟨its, rv, pl, hz⟩ := I.list hq
  obtain ⟨h1, h2⟩ := vals_strs rv
  refine set_of_texts (I.ok.hd hc) pl.isList h2 h1 hb fun h' tk hS hk => ?_
  exact ⟨.ref _, _, I.laid (t' := tk) hk (Nat.le_refl _) (setL_ok hS), rfl, q _ I.fresh⟩
end L2
namespace L2
open PySem PySem.Spec PyProof.Rows
def SameX (p : Addr) (H H' : Hp) : Prop := ∀ b o, b ≠ p → H b = some o → H' b = some o
theorem SameX.refl {p : Addr} {H : Hp} : SameX p H H := fun _ _ _ e => e
theorem SameX.trans {p : Addr} {H H1 H2 : Hp} (a : SameX p H H1) (b : SameX p H1 H2) : SameX p H H2 := fun c o n e => b c o n (a c o n e)
theorem SameX.upd {p : Addr} {H H' : Hp} {o : HO} (a : SameX p H H') : SameX p H (upd H' p o) := fun c u n e => by rw [upd_ne n]; exact a c u n e
theorem Same.x {p : Addr} {H H' : Hp} (a : Same H H') : SameX p H H' := fun c o _ e => a c o e
theorem Same.new {H : Hp} {p : Addr} {o : HO} (h : H p = none) : Same H (upd H p o) := fun b u e => by rw [upd_ne (ne_of_none e h)]; exact e
theorem SameX.of_new {H H' : Hp} {p : Addr} (h : H p = none) (a : SameX p H H') : Same H H' := fun b o e => a b o (ne_of_none e h) e
structure ItOk (J : It) (n : Nat) (item : Nat → V) (H0 : Hp) (p : Addr) : Prop where
  go : ∀ i H, i < n → SameX p H0 H → J.go i H
  stop : ∀ H, SameX p H0 H → J.stop n H
  yld : ∀ i H x H', i < n → SameX p H0 H → J.yld i H x H' → H' = H ∧ x = item i
theorem itok_tup {K : PySem.W.Frag} {a p : Addr} {xs : List V} {H0 : Hp} (h : H0 a = some (.tup xs)) (hp : a ≠ p) : ItOk (Itt K a) xs.length (fun i => xs.getD i .non) H0 p where
  go := fun i H hi k => ⟨xs, xs[i], SqT.of (k a _ hp h), by simp [hi]⟩
  stop := fun H k => ⟨xs, SqT.of (k a _ hp h), Nat.le_refl _⟩
  yld := fun i H v H' hi k ⟨e, q⟩ => ⟨e, by
    have := q xs (SqT.of (k a _ hp h))
    rw [List.getD_eq_getElem?_getD, this]; rfl⟩
theorem itok_lst {K : PySem.W.Frag} {a p : Addr} {xs : List V} {H0 : Hp} (h : H0 a = some (.lst xs)) (hp : a ≠ p) : ItOk (Itl K a) xs.length (fun i => xs.getD i .non) H0 p where
  go := fun i H hi k => ⟨xs, xs[i], SqL.of (k a _ hp h), by simp [hi]⟩
  stop := fun H k => ⟨xs, SqL.of (k a _ hp h), Nat.le_refl _⟩
  yld := fun i H v H' hi k ⟨e, q⟩ => ⟨e, by
    have := q xs (SqL.of (k a _ hp h))
    rw [List.getD_eq_getElem?_getD, this]; rfl⟩
theorem itok_rng {lo : Int} {n : Nat} {H0 : Hp} {p : Addr} : ItOk (Itr lo n) n (fun i => .int (lo + i)) H0 p where
  go := fun i H h _ => h
  stop := fun H _ => Nat.le_refl _
  yld := fun i H v H' hi _ ⟨e, q⟩ => ⟨e, q⟩
def flatN (F : Nat → List V) : Nat → List V
  | 0 => []
  | i + 1 => flatN F i ++ F i
theorem loop_gen {J : It} {g : TG} {tt : TT} {tr : TR} {Qe : St → Hp → Prop} {σ0 : St} {H0 : Hp} {p : Addr} {cur : List V} {n : Nat} {item : Nat → V} (F : Nat → List V) (P : St → Prop) (hσ : P σ0) (hp : H0 p = some (.lst cur)) (ok : ItOk J n item H0 p)
    (turn : ∀ i σ H (N : St → Hp → Prop), i < n → P σ → SameX p H0 H → H p = some (.lst (cur ++ flatN F i)) → (∀ σ2 H4, P σ2 → SameX p H H4 → H4 p = some (.lst (cur ++ flatN F i ++ F i)) → N σ2 H4) →
      g (item i) σ H fun σ2 H2 => tt σ2 H2 fun b H3 => if b = true then tr σ2 H3 N else N σ2 H3)
    (hQ : ∀ σ H, P σ → SameX p H0 H → H p = some (.lst (cur ++ flatN F n)) → Qe σ H) : tLoop J g tt tr Qe σ0 H0 := by
  refine ⟨fun i m σ H => m = n - i ∧ i ≤ n ∧ P σ ∧ SameX p H0 H ∧ H p = some (.lst (cur ++ flatN F i)), ⟨n, rfl, Nat.zero_le _, hσ, .refl, by simpa [flatN] using hp⟩, ?_⟩
  rintro i m σ H ⟨rfl, hi, hP, hS, hH⟩
  by_cases hlt : i < n
  · refine .inr ⟨ok.go i H hlt hS, fun σ' H' => P σ' ∧ SameX p H0 H' ∧ H' p = some (.lst (cur ++ flatN F (i + 1))), fun σ' H' ⟨a, b, c⟩ => ⟨n - (i + 1), by omega, rfl, hlt, a, b, c⟩, fun x H' y => ?_⟩
    obtain ⟨rfl, rfl⟩ := ok.yld i H x H' hlt hS y
    refine turn i σ H' _ hlt hP hS hH fun σ2 H4 hP2 hS2 hH2 => ⟨hP2, hS.trans hS2, ?_⟩
    rw [hH2]
    simp only [flatN, List.append_assoc]
  · have e : i = n := by omega
    subst e
    exact .inl ⟨ok.stop H hS, hQ σ H hP hS hH⟩
theorem flatN_le {F : Nat → List V} {k : Nat} (h : ∀ i, (F i).length ≤ k) : ∀ n, (flatN F n).length ≤ n * k
  | 0 => by simp [flatN]
  | n + 1 => by
    have := flatN_le h n
    have h2 := h n
    simp only [flatN, List.length_append, Nat.succ_mul]
    omega
theorem loop_app {J : It} {g : TG} {tt : TT} {te : TE} {Qe : St → Hp → Prop} {σ0 : St} {H0 : Hp} {p : Addr} {cur : List V} {n : Nat} {item : Nat → V} (f : Nat → Option V) (P : St → Prop) (hσ : P σ0) (hp : H0 p = some (.lst cur)) (hsz : cur.length + n ≤ 100000) (ok : ItOk J n item H0 p)
    (turn : ∀ i σ H (C : Option V → St → Hp → Prop), i < n → P σ → SameX p H0 H → (∀ σ2 H4, P σ2 → Same H H4 → C (f i) σ2 H4) →
      g (item i) σ H fun σ2 H2 => tt σ2 H2 fun b H3 => if b = true then te σ2 H3 fun v H4 => C (some v) σ2 H4 else C none σ2 H3)
    (hQ : ∀ σ H, P σ → SameX p H0 H → H p = some (.lst (cur ++ flatN (fun i => (f i).toList) n)) → Qe σ H) : tLoop J g tt (tApp p te) Qe σ0 H0 := by
  refine loop_gen (fun i => (f i).toList) P hσ hp ok (fun i σ H N hi hP hS hH hN => ?_) hQ
  refine turn i σ H (fun o σ2 H4 => match o with
    | some v => ∃ ys, H4 p = some (.lst ys) ∧ ys.length < sizeLine ∧ N σ2 (upd H4 p (.lst (ys ++ [v])))
    | none => N σ2 H4) hi hP hS fun σ2 H4 hP2 hS2 => ?_
  have hp4 := hS2 p _ hH
  cases e : f i with
  | none =>
    refine hN σ2 H4 hP2 hS2.x ?_
    rw [e]
    simpa using hp4
  | some v =>
    refine ⟨_, hp4, ?_, hN σ2 _ hP2 (hS2.x.upd) ?_⟩
    · have h1 := flatN_le (F := fun i => (f i).toList) (k := 1) (fun i => by show ((f i).toList).length ≤ 1; cases f i <;> simp) i
      have h2 : (100000 : Nat) < sizeLine := by rw [sizeLine_eq]; decide
      rw [List.length_append]
      omega
    · rw [upd_same, e]
      rfl
theorem loop_new {J : It} {g : TG} {tt : TT} {te : TE} {Qe : St → Hp → Prop} {σ0 : St} {H0 : Hp} {p : Addr} {n : Nat} {item : Nat → V} (f : Nat → Option V) (P : St → Prop) (hσ : P σ0) (hp : H0 p = none) (hsz : n ≤ 100000) (ok : ItOk J n item (upd H0 p (.lst [])) p)
    (turn : ∀ i σ H (C : Option V → St → Hp → Prop), i < n → P σ → Same H0 H → (∀ σ2 H4, P σ2 → Same H H4 → C (f i) σ2 H4) →
      g (item i) σ H fun σ2 H2 => tt σ2 H2 fun b H3 => if b = true then te σ2 H3 fun v H4 => C (some v) σ2 H4 else C none σ2 H3)
    (hQ : ∀ σ H, Same H0 H → H p = some (.lst (flatN (fun i => (f i).toList) n)) → Qe σ H) : tLoop J g tt (tApp p te) Qe σ0 (upd H0 p (.lst [])) := by
  have s0 : Same H0 (upd H0 p (.lst [])) := Same.new hp
  have up : ∀ {H}, SameX p (upd H0 p (.lst [])) H → Same H0 H := fun {H} h b o e => h b o (ne_of_none e hp) (s0 b o e)
  refine loop_app f P hσ upd_same (by simpa using hsz) ok (fun i σ H C hi hP hS hC => turn i σ H C hi hP (up hS) hC) fun σ H _ hS hH => hQ σ H (up hS) (by simpa using hH)
theorem flatN_map (f : Nat → V) : ∀ n, flatN (fun i => (some (f i)).toList) n = (List.range n).map f
  | 0 => rfl
  | n + 1 => by
    have := flatN_map f n
    simp only [Option.toList_some] at this
    simp only [flatN, List.range_succ, List.map_append, this, Option.toList_some, List.map_cons, List.map_nil]
end L2
namespace T1
open PySem L2
inductive D where
  | non | bl (b : Bool) | int (i : Int) | str (x : Str) | tup (xs : List D) | lst (xs : List D)
mutual
/-- the value v stands for d; z is an address apart (the law's bag) -/
inductive Rep (z : Addr) (H : Hp) : V → D → Prop where
  | non : Rep z H .non .non
  | bl (b : Bool) : Rep z H (.bl b) (.bl b)
  | int (i : Int) : Rep z H (.int i) (.int i)
  | str (x : Str) (h : x.length ≤ 1000) : Rep z H (.str x) (.str x)
  | tup {a : Addr} {xs : List V} {ds : List D} (h : H a = some (.tup xs)) (hz : a ≠ z) (r : Reps z H xs ds) : Rep z H (.ref a) (.tup ds)
  | lst {a : Addr} {xs : List V} {ds : List D} (h : H a = some (.lst xs)) (hz : a ≠ z) (r : Reps z H xs ds) : Rep z H (.ref a) (.lst ds)
inductive Reps (z : Addr) (H : Hp) : List V → List D → Prop where
  | nil : Reps z H [] []
  | cons {v : V} {d : D} {vs : List V} {ds : List D} (h : Rep z H v d) (t : Reps z H vs ds) : Reps z H (v :: vs) (d :: ds)
end
mutual
theorem Rep.mono {z : Addr} {H H' : Hp} (k : SameX z H H') : ∀ {v : V} {d : D}, Rep z H v d → Rep z H' v d
  | _, _, .non => .non
  | _, _, .bl b => .bl b
  | _, _, .int i => .int i
  | _, _, .str x h => .str x h
  | _, _, .tup h hz r => .tup (k _ _ hz h) hz (Reps.mono k r)
  | _, _, .lst h hz r => .lst (k _ _ hz h) hz (Reps.mono k r)
theorem Reps.mono {z : Addr} {H H' : Hp} (k : SameX z H H') : ∀ {vs : List V} {ds : List D}, Reps z H vs ds → Reps z H' vs ds
  | _, _, .nil => .nil
  | _, _, .cons h t => .cons (Rep.mono k h) (Reps.mono k t)
end
theorem Reps.length {z : Addr} {H : Hp} : ∀ {vs : List V} {ds : List D}, Reps z H vs ds → vs.length = ds.length
  | _, _, .nil => rfl
  | _, _, .cons _ t => by simp [Reps.length t]
theorem Reps.get {z : Addr} {H : Hp} : ∀ {vs : List V} {ds : List D} {i : Nat}, Reps z H vs ds → i < ds.length → Rep z H (vs.getD i .non) (ds.getD i .non)
  | _, _, 0, .cons h _, _ => h
  | _, _, i + 1, .cons _ t, hi => by
    have := Reps.get (i := i) t (by simpa using hi)
    simpa using this
def D.ty : D → String
  | .non => "NoneType" | .bl _ => "bool" | .int _ => "int" | .str _ => "str" | .tup _ => "tuple" | .lst _ => "list"
theorem kit_str (K : PySem.W.Frag) (d : D) : PySem.W.kitOne K (.type d.ty) (.type "str") = some (match d with | .str _ => true | _ => false) := by cases d <;> rfl
theorem kit_int (K : PySem.W.Frag) (d : D) : PySem.W.kitOne K (.type d.ty) (.type "int") = some (match d with | .int _ => true | .bl _ => true | _ => false) := by cases d <;> rfl
theorem kit_bool (K : PySem.W.Frag) (d : D) : PySem.W.kitOne K (.type d.ty) (.type "bool") = some (match d with | .bl _ => true | _ => false) := by cases d <;> rfl
end T1
namespace T1
open PySem L2
theorem b_len : bootBuiltins "len" = some (.builtin "len") := by decide +kernel
theorem b_any : bootBuiltins "any" = some (.builtin "any") := by decide +kernel
theorem b_isinst : bootBuiltins "isinstance" = some (.builtin "isinstance") := by decide +kernel
theorem b_min : bootBuiltins "min" = some (.builtin "min") := by decide +kernel
theorem b_str : bootBuiltins "str" = some (.type "str") := by decide +kernel
theorem b_int : bootBuiltins "int" = some (.type "int") := by decide +kernel
theorem b_bool : bootBuiltins "bool" = some (.type "bool") := by decide +kernel
theorem b_tuple : bootBuiltins "tuple" = some (.type "tuple") := by decide +kernel
theorem b_list : bootBuiltins "list" = some (.type "list") := by decide +kernel
theorem b_set : bootBuiltins "set" = some (.type "set") := by decide +kernel
def blkChk (S sc : Scope) : Bool := sc.names.all fun x => (x.2 != .local || sc.names.lookup x.1 == some .local) && x.2 != .cell && (x.2 != .free || S.names.lookup x.1 == some .cell)
theorem blk_of {X : Cx} {sc : Scope} (S : Scope) (h : blkChk S sc = true) (hS : X.env.scope = S := by rfl) (hk : sc.kind = .function := by rfl) : BlkOk X sc := by
  unfold blkChk at h
  rw [List.all_eq_true] at h
  refine ⟨hk, fun x hx hl => ?_, fun x hx hc => ?_, fun x hx hf => ?_⟩
  · have := h x hx
    rw [hl] at this
    simp at this
    exact this
  · have := h x hx
    rw [hc] at this
    simp at this
  · have := h x hx
    rw [hf] at this
    simp at this
    show X.env.scope.names.lookup x.1 = some .cell
    rw [hS]
    exact this
def rIsi (K : PySem.W.Frag) : List V → Hp → VK → Prop := fun xs H Q => ∃ x n t b, xs = [x, .ty n] ∧ TyOf K H x t ∧ PySem.W.kitOne K t (.type n) = some b ∧ Q (.bl b) H
theorem pe_isi {X : Cx} {a : Expr} {ta : TE} {T : Str} {n : String} {p1 p2 pos : Pos} (hm : X.mg "isinstance" = none) (hm2 : X.mg T = none) (hb : bootBuiltins T = some (.type n)) (ha : PE X a ta) (hg : Gl X "isinstance" := by rfl) (hg2 : Gl X T := by rfl)
    (hs : starEach [a, .Name T p2] X.env = (false, eval a X.env) :: starEach [.Name T p2] X.env := by rfl) (hpl : (backTo pos (starEach [.Name T p2] X.env)).any (·.1) = false := by rfl) (hn : T ≠ "__name__" := by decide) (hd : (T == ("__debug__" : Str)) = false := by decide) :
    PE X (.Call (.Name "isinstance" p1) [a, .Name T p2] [] pos) (tCB (rIsi X.K) (tCons ta (tCons (tC (.ty n)) tNil))) :=
  pe_callB (p := p1) (pos := pos) (X := X) call_isinst hg hm b_isinst (pa_cons ha (pa_cons (pe_bltn (v := .ty n) (pos := p2) hg2 hm2 hb rfl hn hd) pa_nil) hs) (by decide) (by decide) hs hpl
end T1
namespace L2
open PySem PySem.Spec PyProof.Rows
theorem loop_map {J : It} {g : TG} {te : TE} {Qe : St → Hp → Prop} {σ0 : St} {H0 : Hp} {p : Addr} {n : Nat} {item : Nat → V} (f : Nat → V) (P : St → Prop) (hσ : P σ0) (hp : H0 p = none) (hsz : n ≤ 100000) (ok : ItOk J n item (upd H0 p (.lst [])) p)
    (turn : ∀ i σ H (C : V → St → Hp → Prop), i < n → P σ → Same H0 H → (∀ σ2 H4, P σ2 → Same H H4 → C (f i) σ2 H4) → g (item i) σ H fun σ2 H2 => te σ2 H2 fun v H4 => C v σ2 H4)
    (hQ : ∀ σ H, Same H0 H → H p = some (.lst ((List.range n).map f)) → Qe σ H) : tLoop J g tYes (tApp p te) Qe σ0 (upd H0 p (.lst [])) :=
  loop_new (fun i => some (f i)) P hσ hp hsz ok (fun i σ H C hi hP hS hC => turn i σ H (fun v σ2 H4 => C (some v) σ2 H4) hi hP hS hC) fun σ H hS hH => hQ σ H hS (by rw [flatN_map] at hH; exact hH)
theorem range_map {α : Type} [Inhabited α] (xs : List α) (d : α) (f : α → V) : (List.range xs.length).map (fun i => f (xs.getD i d)) = xs.map f := by
  apply List.ext_getElem?
  intro i
  rw [List.getElem?_map, List.getElem?_map]
  by_cases h : i < xs.length
  · simp [h]
  · simp [h]
end L2
namespace L2
open PySem PySem.Spec PyProof.Rows
section
variable {X : Cx} {sc : Scope} {cl : List (Str × Addr)} {N' : List Str} {s : Shared} {H : Hp} {fp : List Addr}
theorem pg_tupB {es : List Expr} {k : Nat} {t : TGs} {pos : Pos} (n : Nat) (hc : X.calm = true) (h : PGs (X.blk sc cl N' s H fp) es t)
    (hn : (assignEach es (X.blk sc cl N' s H fp).env).length = n := by rfl) (hst : (assignEach es (X.blk sc cl N' s H fp).env).findIdx? (·.1) = none := by rfl) : PG (X.blk sc cl N' s H fp) (.Tuple es k pos) (gTup X.K n t) := pg_tup hc h hn hst
theorem ix_tupB : IxR (X.blk sc cl N' s H fp) (rIxT X.K) := ix_tup
theorem ix_listB : IxR (X.blk sc cl N' s H fp) (rIxL X.K) := ix_list
end
end L2
namespace L2
open PySem PySem.Spec PyProof.Rows
section
variable {X : Cx}
def rNeNil : R2 := fun x y H Q => ∃ p q xs, x = .ref p ∧ y = .ref q ∧ H p = some (.lst xs) ∧ H q = some (.lst []) ∧ Q (.bl (!xs.isEmpty)) H
def rEqNil : R2 := fun x y H Q => ∃ p q xs, x = .ref p ∧ y = .ref q ∧ H p = some (.lst xs) ∧ H q = some (.lst []) ∧ Q (.bl xs.isEmpty) H
theorem op_ne_nil (hu : X.A.units < cLine) : OpR X (compareOp .NotEq) rNeNil := by
  intro pins s σ H x y v u Q I rx ry h
  obtain ⟨p, q, xs, rfl, rfl, hp, hq, k⟩ := h
  cases rx
  cases ry
  obtain ⟨its, rv, pl, hz⟩ := I.list (SqL.of hp)
  obtain ⟨its2, rv2, pl2, hz2⟩ := I.list (SqL.of hq)
  cases rv2
  show wpAny _ _ (richCompare .NotEq _ _) _ _ _
  cases rv with
  | nil => exact SeqAt.RcNeAt.lists (e := fun _ => true) pl.isList pl2.isList rfl hu (fun j h1 _ => absurd h1 (by simp)) _ _ _ _ ⟨.bl _, H, I, rfl, k⟩
  | cons r t => exact SeqAt.RcNeAt.lists_lengths pl.isList pl2.isList (by simp) hu _ _ _ _ ⟨.bl _, H, I, rfl, k⟩
theorem op_eq_nil (hu : X.A.units < cLine) : OpR X (compareOp .Eq) rEqNil := by
  intro pins s σ H x y v u Q I rx ry h
  obtain ⟨p, q, xs, rfl, rfl, hp, hq, k⟩ := h
  cases rx
  cases ry
  obtain ⟨its, rv, pl, hz⟩ := I.list (SqL.of hp)
  obtain ⟨its2, rv2, pl2, hz2⟩ := I.list (SqL.of hq)
  cases rv2
  show wpAny _ _ (richCompare .Eq _ _) _ _ _
  cases rv with
  | nil => exact SeqAt.RcAt.lists (e := fun _ => true) pl.isList pl2.isList rfl hu (fun j h1 _ => absurd h1 (by simp)) _ _ _ _ ⟨.bl _, H, I, rfl, k⟩
  | cons r t => exact SeqAt.RcAt.lists_lengths pl.isList pl2.isList (by simp) hu _ _ _ _ ⟨.bl _, H, I, rfl, k⟩
theorem PI.or {tg l : Expr} {wi wi' : TI} (h : PI X tg l wi) (h' : PI X tg l wi') : PI X tg l (fun σ H R => wi σ H R ∨ wi' σ H R) := by
  intro pins s σ H R I q
  rcases q with q | q
  · exact h pins s σ H R I q
  · exact h' pins s σ H R I q
end
end L2
namespace L2
open PySem PySem.Spec PyProof.Rows
section
variable {X : Cx} {pins : List (Addr × Obj)} {σ : St} {H : Hp} {s : Shared} {h' : Heap} {m : Str → Option Value}
end
def strOf : Value → Str
  | .str x _ => x
  | _ => ⟨#[]⟩
theorem vals_strOf : ∀ {xs : List Str} {us : List Value}, Vals (xs.map V.str) us → us.map strOf = xs ∧ ∀ u ∈ us, ∃ t, u = .str (strOf u) t
  | [], _, .nil => ⟨rfl, fun u hu => nomatch hu⟩
  | x :: r, _, .cons h t => by
    obtain ⟨t1, rfl⟩ := h
    obtain ⟨e, q⟩ := vals_strOf t
    refine ⟨by rw [List.map_cons, e]; rfl, fun u hu => ?_⟩
    rcases List.mem_cons.mp hu with rfl | hu
    · exact ⟨t1, rfl⟩
    · exact q u hu
end L2
namespace L2
open PySem PySem.Spec PyProof.Rows
def cutS (z : Str) (lo hi : Option Int) : Str := ⟨((z.cps.toList.drop (HT.sIx z.length 0 lo)).take (HT.sIx z.length z.length hi - HT.sIx z.length 0 lo)).toArray⟩
theorem clip_s (v : Int) (n d : Nat) : max (0 : Int) (min (if v < 0 then v + (n : Int) else v) (n : Int)) = ((HT.sIx n d (some v) : Nat) : Int) := by
  show _ = (((if v < 0 then (v + (n : Int)).toNat else min v.toNat n) : Nat) : Int)
  by_cases hv : v < 0
  · rw [if_pos hv, if_pos hv]; omega
  · rw [if_neg hv, if_neg hv]; omega
theorem indices_cut (lo hi : Option Int) (n : Nat) : Builtin.Str.strSliceIndices lo hi 1 n = (List.range (HT.sIx n n hi - HT.sIx n 0 lo)).map fun k => HT.sIx n 0 lo + k := by
  have key : ∀ a b : Nat, sliceRange (a : Int) (b : Int) 1 = (List.range (b - a)).map fun k => a + k := fun a b => by
    unfold sliceRange
    have e : ((if (1 : Int) > 0 then (if (a : Int) < b then ((b : Int) - a + 1 - 1) / 1 else 0) else (if (a : Int) > b then ((a : Int) - b - 1 - 1) / (-1) else 0)) : Int).toNat = b - a := by
      rw [if_pos (by decide)]
      by_cases h : (a : Int) < b
      · rw [if_pos h, Int.ediv_one]; omega
      · rw [if_neg h]; omega
    simp only [e]
    refine List.map_congr_left fun k _ => ?_
    omega
  have hlo : (match lo with | none => (if (1 : Int) > 0 then (0 : Int) else (n : Int) - 1) | some i => if (1 : Int) > 0 then max 0 (min (if i < 0 then i + (n : Int) else i) (n : Int)) else max (-1) (min (if i < 0 then i + (n : Int) else i) ((n : Int) - 1))) = ((HT.sIx n 0 lo : Nat) : Int) := by
    cases lo with
    | none => rfl
    | some v =>
      show (if (1 : Int) > 0 then _ else _) = _
      rw [if_pos (by decide)]
      exact clip_s v n 0
  have hhi : (match hi with | none => (if (1 : Int) > 0 then (n : Int) else -1) | some i => if (1 : Int) > 0 then max 0 (min (if i < 0 then i + (n : Int) else i) (n : Int)) else max (-1) (min (if i < 0 then i + (n : Int) else i) ((n : Int) - 1))) = ((HT.sIx n n hi : Nat) : Int) := by
    cases hi with
    | none => rfl
    | some v =>
      show (if (1 : Int) > 0 then _ else _) = _
      rw [if_pos (by decide)]
      exact clip_s v n n
  unfold Builtin.Str.strSliceIndices
  refine Eq.trans ?_ (key _ _)
  rw [← hlo, ← hhi]
  cases lo <;> cases hi <;> rfl
theorem slice_cut (z : Str) (lo hi : Option Int) : Txt.slice z lo hi = cutS z lo hi := by
  have e := indices_cut lo hi z.length
  have h2 := HT.sIx_le z.length z.length (Nat.le_refl _) hi
  have hz : z.cps.toList.length = z.length := by simp; rfl
  have pick : (Builtin.Str.strSliceIndices lo hi 1 z.length).filterMap (z.cps[·]?) = (z.cps.toList.drop (HT.sIx z.length 0 lo)).take (HT.sIx z.length z.length hi - HT.sIx z.length 0 lo) := by
    rw [e]
    by_cases h : HT.sIx z.length 0 lo ≤ HT.sIx z.length z.length hi
    · have h3 := StrLaws.picks z.cps.toList (HT.sIx z.length z.length hi - HT.sIx z.length 0 lo) (HT.sIx z.length 0 lo) (by omega)
      simpa using h3
    · have : HT.sIx z.length z.length hi - HT.sIx z.length 0 lo = 0 := by omega
      rw [this]
      simp
  unfold Txt.slice
  split
  · rename_i hw
    have hl : (Builtin.Str.strSliceIndices lo hi 1 z.length).length = z.length := by simpa using hw
    rw [e, List.length_map, List.length_range] at hl
    unfold cutS
    rw [hl]
    obtain ⟨cs⟩ := z
    by_cases h0 : cs.size = 0
    · have : cs = #[] := Array.eq_empty_of_size_eq_zero h0
      subst this
      simp [Str.length]
    · have a0 : HT.sIx (Str.mk cs).length 0 lo = 0 := by
        have : (Str.mk cs).length = cs.size := rfl
        omega
      rw [a0]
      have : (Str.mk cs).length = cs.toList.length := by simp; rfl
      rw [this, List.drop_zero]
      show Str.mk cs = ⟨(cs.toList.take cs.toList.length).toArray⟩
      rw [List.take_length]
  · unfold cutS
    rw [pick]
def rSlS : V → Option Int → Option Int → Hp → VK → Prop := fun x lo hi H Q => ∃ z, x = .str z ∧ z.length ≤ sizeLine ∧ Q (.str (cutS z lo hi)) H
theorem sl_str {X : Cx} : SlR X rSlS := by
  intro pins s σ H x v vl vu lo hi sl Q I rx hs pl pu h
  obtain ⟨z, rfl, hz, q⟩ := h
  obtain ⟨t, rfl⟩ := rx
  rw [← slice_cut] at q
  refine ⟨"str", _, F.slot_str_getitem.lookup, typeIs_str _ _ _, ?_⟩
  have fin : ∀ (l u : Option (Int × Tok)), l.map (·.1) = lo → u.map (·.1) = hi → vl = partValue l → vu = partValue u → wpAny (model X.prog X.w) X.A (getItem (.str z t) (.ref sl)) (EP X pins σ Q) X.xe s := fun l u e1 e2 e3 e4 => by
    subst e1 e2 e3 e4
    obtain ⟨o, ho, hc, hd⟩ := hs
    refine wpAny_getItem_str_slice (l := l) (u := u) (st := none) ⟨o, ho, hc, hd⟩ rfl ?_
    exact post_val_or_str ⟨Nat.le_trans (Txt.slice_le z _ _) hz, fun t' k => ⟨.str _, H, I.tok _, ⟨_, rfl⟩, q⟩⟩
  cases pl with
  | none =>
    cases pu with
    | none => exact fin none none rfl rfl rfl rfl
    | int j u => exact fin none (some (j, u)) rfl rfl rfl rfl
  | int i t1 =>
    cases pu with
    | none => exact fin (some (i, t1)) none rfl rfl rfl rfl
    | int j u => exact fin (some (i, t1)) (some (j, u)) rfl rfl rfl rfl
end L2
namespace L2
open PySem PySem.Spec PyProof.Rows
end L2
namespace T1
open PySem L2 PyProof.Rows
mutual
inductive Dep : Nat → D → Prop where
  | non (k : Nat) : Dep k .non
  | bl (k : Nat) (b : Bool) : Dep k (.bl b)
  | int (k : Nat) (i : Int) : Dep k (.int i)
  | str (k : Nat) (x : Str) : Dep k (.str x)
  | tup {k : Nat} {ds : List D} (t : Deps k ds) : Dep (k + 1) (.tup ds)
  | lst {k : Nat} {ds : List D} (t : Deps k ds) : Dep (k + 1) (.lst ds)
inductive Deps : Nat → List D → Prop where
  | nil (k : Nat) : Deps k []
  | cons {k : Nat} {d : D} {ds : List D} (h : Dep k d) (t : Deps k ds) : Deps k (d :: ds)
end
theorem Deps.get {k : Nat} : ∀ {ds : List D} {i : Nat}, Deps k ds → i < ds.length → Dep k (ds.getD i .non)
  | _, 0, .cons h _, _ => h
  | _, i + 1, .cons _ t, hi => by
    have := Deps.get (i := i) t (by simpa using hi)
    simpa using this
theorem vals_at {xs : List V} {us : List Value} (r : Vals xs us) {j : Nat} (h : j < us.toArray.size) : RelV (xs.getD j .non) us.toArray[j] := by
  have hl := r.length
  have h' : j < xs.length := by rw [hl]; simpa using h
  obtain ⟨u, hu, ru⟩ := r.get (i := j) (x := xs.getD j .non) (by simp [h'])
  have : us.toArray[j] = u := by
    have h2 : j < us.length := by simpa using h
    have e : us[j]? = some us[j] := List.getElem?_eq_getElem h2
    rw [e] at hu
    simpa using Option.some.inj hu
  rw [this]
  exact ru
section
variable {X : Cx} {pins : List (Addr × Obj)} {σ : L2.St} {H : Hp} {s : Shared} {z z' : Addr}
theorem eq_same (I : Inv X pins σ H s) : ∀ (k : Nat) {d : D}, Dep k d → ∀ {A : Around} {x y : V} {u v : Value}, Room k A → Rep z H x d → Rep z' H y d → RelV x u → RelV y v → SeqAt.EqAt A s u v true := by
  intro k
  induction k with
  | zero =>
    intro d hd A x y u v hr rx ry ru rv
    cases hd with
    | non => cases rx; cases ry; cases ru; cases rv; exact SeqAt.EqAt.same _
    | bl _ b => cases rx; cases ry; cases ru; cases rv; exact SeqAt.EqAt.same _
    | int _ i => cases rx; cases ry; obtain ⟨t, rfl⟩ := ru; obtain ⟨t', rfl⟩ := rv; have := SeqAt.EqAt.int_int (A := A) (s := s) i t i t'; simpa using this
    | str _ x => cases rx; cases ry; obtain ⟨t, rfl⟩ := ru; obtain ⟨t', rfl⟩ := rv; have := SeqAt.EqAt.str_str (A := A) (s := s) x t x t'; simpa using this
  | succ k ih =>
    intro d hd A x y u v hr rx ry ru rv
    cases hd with
    | non => cases rx; cases ry; cases ru; cases rv; exact SeqAt.EqAt.same _
    | bl _ b => cases rx; cases ry; cases ru; cases rv; exact SeqAt.EqAt.same _
    | int _ i => cases rx; cases ry; obtain ⟨t, rfl⟩ := ru; obtain ⟨t', rfl⟩ := rv; have := SeqAt.EqAt.int_int (A := A) (s := s) i t i t'; simpa using this
    | str _ x => cases rx; cases ry; obtain ⟨t, rfl⟩ := ru; obtain ⟨t', rfl⟩ := rv; have := SeqAt.EqAt.str_str (A := A) (s := s) x t x t'; simpa using this
    | @tup _ ds t =>
      cases rx with
      | @tup a xs _ ha _ r1 =>
        cases ry with
        | @tup b ys _ hb _ r2 =>
          cases ru
          cases rv
          by_cases hab : a = b
          · subst hab; exact SeqAt.EqAt.same _
          · obtain ⟨its, q1, p1, _⟩ := I.tuple (SqT.of ha)
            obtain ⟨its2, q2, p2, _⟩ := I.tuple (SqT.of hb)
            have l1 := q1.length
            have l2 := q2.length
            have e1 := r1.length
            have e2 := r2.length
            have key := SeqAt.RcAt.tuples (e := fun _ => true) p1 p2 hr.units0 fun j h1 h2 => ih (t.get (i := j) (by rw [← e1, l1]; simpa using h1)) hr.in1 (r1.get (i := j) (by rw [← e1, l1]; simpa using h1)) (r2.get (i := j) (by rw [← e2, l2]; simpa using h2)) (vals_at q1 h1) (vals_at q2 h2)
            have e : ((List.range (min its.toArray.size its2.toArray.size)).all (fun _ => true) && its.toArray.size == its2.toArray.size) = true := by
              have : its.toArray.size = its2.toArray.size := by simp; omega
              rw [this]
              simp
            rw [e] at key
            exact SeqAt.EqAt.of_refs hab key
    | @lst _ ds t =>
      cases rx with
      | @lst a xs _ ha _ r1 =>
        cases ry with
        | @lst b ys _ hb _ r2 =>
          cases ru
          cases rv
          by_cases hab : a = b
          · subst hab; exact SeqAt.EqAt.same _
          · obtain ⟨its, q1, p1, _⟩ := I.list (SqL.of ha)
            obtain ⟨its2, q2, p2, _⟩ := I.list (SqL.of hb)
            have l1 := q1.length
            have l2 := q2.length
            have e1 := r1.length
            have e2 := r2.length
            have hsz : its.toArray.size = its2.toArray.size := by simp; omega
            have key := SeqAt.RcAt.lists (e := fun _ => true) p1.isList p2.isList hsz hr.units0 fun j h1 h2 => ih (t.get (i := j) (by rw [← e1, l1]; simpa using h1)) hr.in1 (r1.get (i := j) (by rw [← e1, l1]; simpa using h1)) (r2.get (i := j) (by rw [← e2, l2]; simpa using h2)) (vals_at q1 h1) (vals_at q2 h2)
            have e : (List.range its.toArray.size).all (fun _ => true) = true := by simp
            rw [e] at key
            exact SeqAt.EqAt.of_refs hab key
def rSame (b : Bool) : R2 := fun x y H Q => ∃ z z' ds, Rep z H x (.lst ds) ∧ Rep z' H y (.lst ds) ∧ Deps 4 ds ∧ Q (.bl b) H
theorem op_ne_same (hr : Room 5 X.A) : OpR X (compareOp .NotEq) (rSame false) := by
  intro pins s σ H x y v u Q I rx ry h
  obtain ⟨z, z', ds, r1, r2, dp, q⟩ := h
  cases r1 with
  | @lst a xs _ ha _ r1 =>
    cases r2 with
    | @lst b ys _ hb _ r2 =>
      cases rx
      cases ry
      obtain ⟨its, q1, p1, _⟩ := I.list (SqL.of ha)
      obtain ⟨its2, q2, p2, _⟩ := I.list (SqL.of hb)
      have l1 := q1.length
      have l2 := q2.length
      have e1 := r1.length
      have e2 := r2.length
      have hsz : its.toArray.size = its2.toArray.size := by simp; omega
      show wpAny _ _ (richCompare .NotEq _ _) _ _ _
      refine SeqAt.RcNeAt.lists (e := fun _ => true) p1.isList p2.isList hsz hr.units0 (fun j h1 h2 => eq_same I 4 (dp.get (i := j) (by rw [← e1, l1]; simpa using h1)) hr.in1 (r1.get (i := j) (by rw [← e1, l1]; simpa using h1)) (r2.get (i := j) (by rw [← e2, l2]; simpa using h2)) (vals_at q1 h1) (vals_at q2 h2)) _ _ _ _ ?_
      have e : (!(List.range its.toArray.size).all (fun _ => true)) = false := by simp
      rw [e]
      exact ⟨.bl _, H, I, rfl, q⟩
end
end T1
namespace L2
open PySem PySem.Spec PyProof.Rows
def tokOf : Value → Tok
  | .str _ t => t
  | _ => 0
theorem strValues_of : ∀ {us : List Value}, (∀ u ∈ us, ∃ t, u = .str (strOf u) t) → us = strValues (us.map fun u => (strOf u, tokOf u))
  | [], _ => rfl
  | u :: r, h => by
    obtain ⟨t, e⟩ := h u List.mem_cons_self
    have ih := strValues_of fun v hv => h v (List.mem_cons_of_mem _ hv)
    rw [List.map_cons]
    show u :: r = .str (strOf u) (tokOf u) :: strValues (r.map fun u => (strOf u, tokOf u))
    rw [← ih]
    congr 1
    rw [e]
    rfl
end L2
namespace L2
open PySem PySem.Spec PyProof.Rows
theorem seq_hide {t u : TS} {D : Ends} {σ : St} {H : Hp} (h : ∀ U : St → Hp → Prop, (∀ σ H, u D σ H → U σ H) → t { D with nx := U } σ H) : tSeq t u D σ H := h (u D) fun _ _ q => q
theorem D_hide {t : TS} {D : Ends} {σ : St} {H : Hp} (h : ∀ D' : Ends, (∀ σ H, D.nx σ H → D'.nx σ H) → (∀ v H, D.rt v H → D'.rt v H) → (∀ σ H, D.bk σ H → D'.bk σ H) → (∀ σ H, D.ct σ H → D'.ct σ H) → t D' σ H) : t D σ H := h D (fun _ _ q => q) (fun _ _ q => q) (fun _ _ q => q) fun _ _ q => q
structure Wrq (G : Prop) : Prop where
  out : G
theorem ite_both {c A G : Prop} [Decidable c] (h : c → Wrq G → A) (g : G) : if c then A else G := by
  by_cases q : c
  · rw [if_pos q]
    exact h q ⟨g⟩
  · rw [if_neg q]
    exact g
theorem seq_cut {t u : TS} {D : Ends} {σ : St} {H : Hp} {J : St → Hp → Prop} (h1 : ∀ U : St → Hp → Prop, (∀ σ H, J σ H → U σ H) → t { D with nx := U } σ H) (h2 : ∀ σ H, J σ H → u D σ H) : tSeq t u D σ H := h1 (u D) h2
end L2
namespace L2
open PySem PySem.Spec PySem.Calls PyProof.Rows
section
variable {prog : Program} {w : World} {A : Around} {E : Value → Shared → Prop} {s : Shared}
end
end L2
namespace L2
open PySem PySem.Spec PySem.Calls PyProof.Rows
section
variable {X : Cx} {pins : List (Addr × Obj)} {σ : St} {H : Hp} {s : Shared} {E : Value → Shared → Prop}
end
end L2
namespace L2
open PySem PySem.Spec PySem.Calls PyProof.Rows
section
variable {X : Cx} {pins : List (Addr × Obj)} {σ : St} {H : Hp} {s : Shared} {E : Value → Shared → Prop}
end
end L2
namespace L2
open PySem PySem.Spec PyProof.Rows
end L2
namespace L2
open PySem PySem.Spec PyProof.Rows
section
variable {prog : Program} {w : World} {A : Around} {E : Value → Shared → Prop} {s : Shared}
theorem draw_list {it t : Addr} {items : Array Value} (hne : t ≠ it) : ∀ (n i : Nat) (s : Shared) (Q : List Value → Shared → Prop), s.heap.IsListIter it t i → s.heap.IsList t items → i + n ≤ items.size →
    (∀ h', h'.IsListIter it t (i + n) → Heap.SameBut it s.heap h' → Q ((items.toList.drop i).take n) { s with heap := h' }) → wpAny (model prog w) A (draw (.ref it) n) Q E s
  | 0, i, s, Q, hit, _, _, hQ => by
    show wpAny _ _ (pure []) Q E s
    exact wpAny_pure (by simpa using hQ s.heap hit (Heap.SameBut.refl ..))
  | n + 1, i, s, Q, hit, ht, hle, hQ => by
    have hlt : i < items.size := by omega
    show wpAny _ _ (pyNext (.ref it) >>= _) Q E s
    refine wpAny_bind (wpAny_pyNext_list_item hit ht (x := items[i]) (by simp [hlt]) fun h₁ hit₁ hs₁ => ?_)
    refine wpAny_bind (wpAny_holding (draw_list hne n (i + 1) _ _ hit₁ (ht.extBut hs₁.extBut hne) (by omega) fun h₂ hit₂ hs₂ => wpAny_pure ?_))
    have hd : items.toList.drop i = items[i] :: items.toList.drop (i + 1) := by simp [List.drop_eq_getElem_cons, hlt]
    have := hQ h₂ (by rw [show i + (n + 1) = i + 1 + n by omega]; exact hit₂) (hs₁.trans hs₂)
    rw [hd, List.take_succ_cons] at this
    exact this
theorem unpackItems_list {t : Addr} {items : Array Value} {Q : List Value → Shared → Prop} (hh : A.handled = none) (ht : s.heap.IsList t items)
    (hQ : ∀ h', Heap.ExtBut s.heap.objs.size s.heap h' → Q items.toList { s with heap := h' }) : wpAny (model prog w) A (unpackItems (.ref t) items.size none) Q E s := by
  have hlt : t ≠ s.heap.objs.size := by obtain ⟨o, ho, _⟩ := ht; exact Nat.ne_of_lt (Heap.lt_size ho)
  unfold unpackItems
  refine wpAny_bind ?_
  · unfold notIterableAtAll
    refine wpAny_bind (wpAny_specialOf ht.typeIs F.slot_list_iter.lookup ?_)
    refine wpAny_pure ?_
    simp only [Bool.false_eq_true, if_false]
    refine wpAny_bind (wpAny_holding (wpAny_pyIter_list ht ?_))
    refine wpAny_bind (wpAny_holding (draw_list hlt items.size 0 _ _ ⟨_, Heap.get?_push_size _ rfl, rfl, rfl⟩ (ht.push _) (by omega) fun h₁ hit₁ hs₁ => ?_))
    have hall : List.take items.size (List.drop 0 items.toList) = items.toList := by
      rw [List.drop_zero]; exact List.take_of_length_le (by simp)
    rw [hall]
    rw [if_neg (by simp)]
    have ht₁ : Heap.IsList h₁ t items := (ht.push _).extBut hs₁.extBut hlt
    refine wpAny_bind (wpAny_holding (wpAny_pyNext_list_end hh hit₁ ht₁ (by simp) fun h₂ he₂ => ?_))
    simp only [Option.isSome_none, Bool.false_eq_true, if_false]
    refine wpAny_pure (hQ h₂ fun b o hb e => he₂ b o hb (hs₁.extBut b o hb (Heap.get?_push_of_some _ e)))
theorem assign_Tuple_list {env : Env} {elts : List Expr} {x1} {pos : Pos} {t : Addr} {items : Array Value} {Q : Unit → Shared → Prop} (hh : A.handled = none) (ht : s.heap.IsList t items)
    (hn : (assignEach elts env).length = items.size) (hstar : (assignEach elts env).findIdx? (·.1) = none)
    (h : ∀ h', Heap.ExtBut s.heap.objs.size s.heap h' → wpAny (model prog w) A (assignInOrder ((assignEach elts env).map (·.2)) items.toList) Q E { s with heap := h' }) :
    wpAny (model prog w) A (assign (.Tuple elts x1 pos) env (.ref t)) Q E s := by
  rw [assign_Tuple]
  refine wpAny_bind (wpAny_standAt ?_)
  unfold unpack
  rw [hn, hstar]
  exact wpAny_bind (wpAny_holding (unpackItems_list hh ht h))
end
def gTupL (K : PySem.W.Frag) (n : Nat) (t : TGs) : TG := fun v σ H Q => ∃ a xs, v = .ref a ∧ SqL K H a xs ∧ xs.length = n ∧ t xs σ H Q
theorem pg_tupL {X : Cx} {pos : Pos} {es : List Expr} {k : Nat} {t : TGs} {n : Nat} (hc : X.calm = true) (h : PGs X es t)
    (hn : (assignEach es X.env).length = n := by rfl) (hst : (assignEach es X.env).findIdx? (·.1) = none := by rfl) : PG X (.Tuple es k pos) (gTupL X.K n t) := by
  intro pins s σ H v u Q I r hw
  obtain ⟨a, xs, e1, hq, hl, hw⟩ := hw
  subst e1
  cases r
  obtain ⟨its, rv, ht, hz⟩ := I.list hq
  refine assign_Tuple_list (I.ok.hd hc) ht.isList (by simp [hn, ← hl, rv.length]) hst fun h' hx => ?_
  have I1 : Inv X pins σ H { s with heap := h' } := I.kept (t' := s.toks) fun b o e => hx b o (Nat.ne_of_lt (Heap.lt_size e)) e
  exact h pins _ σ H xs _ Q I1 (by simpa using rv) hw
end L2
namespace T1
open PySem PySem.Spec PyProof.Rows L2
end T1
namespace L2
open PySem PySem.Spec PyProof.Rows
end L2
namespace L2
open PySem PySem.Spec PyProof.Rows
end L2
namespace T1
open PySem PySem.Spec PyProof.Rows L2
end T1
namespace L2
open PySem PySem.Spec PyProof.Rows
end L2
namespace L2
open PySem PySem.Spec PyProof.Rows
structure Lft (S R : List Addr) (h h' : Heap) : Prop where
  keep : ∀ b o, b ∉ R → b ∉ S → h.get? b = some o → h'.get? b = some o
  slot : ∀ b o, b ∉ R → h.get? b = some o → ∃ sl, h'.get? b = some { o with slots := sl }
  there : ∀ b o, h.get? b = some o → ∃ o', h'.get? b = some o'
def Exc (e T : Addr) (cls a0 fl : Value) (h : Heap) : Prop :=
  ∃ oe vs oT ts, h.get? e = some oe ∧ oe.cls = cls ∧ oe.data = .fields vs ∧ vs[0]? = some a0 ∧ vs[1]? = some (.ref T) ∧ T ≠ e ∧ h.get? T = some oT ∧ oT.data = .fields ts ∧ ts[3]? = some fl ∧ vs[2]? = some .none ∧ oe.dict = none
section
variable {S R R' : List Addr} {h h1 h2 : Heap} {e : Addr} {o ob : Obj}
theorem Lft.trans (a : Lft S R h h1) (b : Lft S R h1 h2) : Lft S R h h2 := by
  refine ⟨fun c o n m q => b.keep c o n m (a.keep c o n m q), fun c o n q => ?_, fun c o q => ?_⟩
  · obtain ⟨sl, q1⟩ := a.slot c o n q
    obtain ⟨sl', q2⟩ := b.slot c _ n q1
    exact ⟨sl', q2⟩
  · obtain ⟨o', q1⟩ := a.there c o q
    exact b.there c o' q1
theorem Lft.mono (a : Lft S R h h1) (m : ∀ b ∈ R, b ∈ R') : Lft S R' h h1 :=
  ⟨fun c o n k q => a.keep c o (fun z => n (m c z)) k q, fun c o n q => a.slot c o (fun z => n (m c z)) q, a.there⟩
theorem Lft.push : Lft S R h (h.push ob) :=
  ⟨fun _ _ _ _ q => Heap.get?_push_of_some _ q, fun _ o _ q => ⟨o.slots, Heap.get?_push_of_some _ q⟩, fun _ o q => ⟨o, Heap.get?_push_of_some _ q⟩⟩
theorem Lft.slots (x : Heap.SlotsOnly S h h1) : Lft S R h h1 := by
  refine ⟨fun b o _ m q => ?_, fun b o _ q => x.2.2 b o q, fun b o q => ?_⟩
  · rw [x.2.1 b m]; exact q
  · obtain ⟨sl, z⟩ := x.2.2 b o q
    exact ⟨_, z⟩
theorem fld_self {vs : Array Value} (he : h.get? e = some o) (hd : o.data = .fields vs) (f : Array Value → Array Value) :
    (h.update e (Obj.mapFields f)).get? e = some (Obj.mapFields f o) := by
  have k := Obj.data_mapFields hd f
  exact Heap.get?_update_self _ he (Obj.isFreed_of_fields k)
theorem Lft.fld {vs : Array Value} (he : h.get? e = some o) (hd : o.data = .fields vs) (f : Array Value → Array Value) : Lft S [e] h (h.update e (Obj.mapFields f)) := by
  have oth : ∀ b, b ∉ [e] → (h.update e (Obj.mapFields f)).get? b = h.get? b := fun b n => Heap.get?_update_other _ _ fun z => n (by rw [z]; exact List.mem_singleton_self b)
  refine ⟨fun b o n _ q => by rw [oth b n]; exact q, fun b o n q => ⟨o.slots, by rw [oth b n]; exact q⟩, fun b u q => ?_⟩
  by_cases z : b = e
  · subst z; exact ⟨_, fld_self he hd f⟩
  · exact ⟨u, by rw [oth b (by simpa using z)]; exact q⟩
end
theorem dict_fld (f : Array Value → Array Value) (o : Obj) : (Obj.mapFields f o).dict = o.dict := by
  unfold Obj.mapFields
  split <;> rfl
section
variable {M : Model} {A : Around} {E : Value → Shared → Prop} {s : Shared} {base : Heap} {env : Env} {outer : List Env} {L e : Addr} {cls a0 : Value}
theorem ent {oe : Obj} {vs : Array Value} {head : Value} {hadNext : Bool} {Q : Unit → Shared → Prop}
    (hfr : A.frames = some (env :: outer)) (hl : s.heap.FunFrames base (env :: outer)) (hf : env.frame = some L)
    (he : s.heap.get? e = some oe) (hd : oe.data = .fields vs) (hsz : 1 < vs.size) (h0 : vs[0]? = some a0) (n2 : vs[2]? = some .none) (dn : oe.dict = none)
    (h : ∀ h' T, Lft (frs (env :: outer)) [e] s.heap h' → s.heap.objs.size ≤ T → Exc e T oe.cls a0 (rawInt L) h' → Q () { s with heap := h' }) :
    wpAny M A (do let a ← frameOf env; let pl ← entryPlaceOf L hadNext; let b ← EntryCells.newEntry head a .none (rawInt L) .none pl; setField (.ref e) 1 b) Q E s := by
  have hne : e ∉ (env :: outer).filterMap (·.frame) := by
    intro z
    obtain ⟨_, o, q, nf⟩ := hl.mem z
    rw [he] at q
    cases q
    exact nf vs hd
  refine wpAny_bind (wpAny_frameOf_fun hfr hl hf fun h1 x1 => ?_)
  refine wpAny_bind (wpAny_entryPlaceOf fun pl hpl => ?_)
  unfold EntryCells.newEntry newFields
  refine wpAny_bind (wpAny_newObj_type ?_ (hpl.sizeOk5 _ _ _ _ _))
  have e1 : h1.get? e = some oe := by rw [x1.2.1 e hne]; exact he
  have e2 : (h1.push { cls := .type "traceback", dict := none, data := .fields ([head, .ref L, .none, rawInt L, .none] ++ (if pl.isEmpty then List.replicate 6 Value.none else pl)).toArray }).get? e = some oe := Heap.get?_push_of_some _ e1
  have ne : h1.objs.size ≠ e := Nat.ne_of_gt (Heap.lt_size e1)
  refine wpAny_setField e2 hd hsz ?_
  refine h _ h1.objs.size (((Lft.slots x1).trans Lft.push).trans (Lft.fld e2 hd _)) (Nat.le_of_eq x1.1.symm) ?_
  refine ⟨_, _, _, _, fld_self e2 hd _, Obj.cls_mapFields _ _, Obj.data_mapFields hd _, ?_, ?_, ne, (Heap.get?_update_other _ _ (Ne.symm ne)).trans (Heap.get?_push_size _ rfl), rfl, ?_, ?_, by rw [dict_fld]; exact dn⟩
  · rw [Array.getElem?_setIfInBounds_ne (by decide)]; exact h0
  · simp [hsz]
  · rcases hpl with rfl | ⟨_, _, _, _, _, _, _, rfl⟩ <;> rfl
  · rw [Array.getElem?_setIfInBounds_ne (by decide)]; exact n2
theorem note_new {oe : Obj} {vs : Array Value} {Q : Unit → Shared → Prop}
    (hfr : A.frames = some (env :: outer)) (hl : s.heap.FunFrames base (env :: outer)) (hf : env.frame = some L)
    (he : s.heap.get? e = some oe) (hd : oe.data = .fields vs) (n1 : vs[1]? = some .none) (h0 : vs[0]? = some a0) (n2 : vs[2]? = some .none) (dn : oe.dict = none)
    (h : ∀ h' T, Lft (frs (env :: outer)) [e] s.heap h' → s.heap.objs.size ≤ T → Exc e T oe.cls a0 (rawInt L) h' → Q () { s with heap := h' }) : wpAny M A (noteFrame (.ref e) env) Q E s := by
  have hsz : 1 < vs.size := (Array.getElem?_eq_some_iff.mp n1).1
  unfold noteFrame
  simp only [hf]
  refine wpAny_bind (wpAny_field he hd n1 ?_)
  rw [if_neg (by decide)]
  exact ent hfr hl hf he hd hsz h0 n2 dn h
theorem note_on {T : Addr} {Q : Unit → Shared → Prop}
    (hfr : A.frames = some (env :: outer)) (hl : s.heap.FunFrames base (env :: outer)) (hf : env.frame = some L) (x : Exc e T cls a0 .none s.heap)
    (h : ∀ h' T', Lft (frs (env :: outer)) [e, T] s.heap h' → s.heap.objs.size ≤ T' → Exc e T' cls a0 (rawInt L) h' → Q () { s with heap := h' }) : wpAny M A (noteFrame (.ref e) env) Q E s := by
  obtain ⟨oe, vs, oT, ts, he, rfl, hd, h0, n1, ne, hT, dT, h3, n2, dn⟩ := x
  have hsz : 1 < vs.size := (Array.getElem?_eq_some_iff.mp n1).1
  have hs3 : 3 < ts.size := (Array.getElem?_eq_some_iff.mp h3).1
  unfold noteFrame
  simp only [hf]
  refine wpAny_bind (wpAny_field he hd n1 ?_)
  rw [if_pos (by simp)]
  refine wpAny_bind (wpAny_field hT dT h3 ?_)
  rw [if_neg (by simp [rawInt])]
  refine wpAny_bind (wpAny_setField hT dT hs3 ?_)
  have l1 : Lft (frs (env :: outer)) [T] s.heap (s.heap.update T (Obj.mapFields (·.setIfInBounds 3 Value.none))) := Lft.fld hT dT _
  refine ent (s := { s with heap := _ }) hfr (hl.of_keeps fun b o q nf => ⟨o, ?_, rfl⟩) hf ((Heap.get?_update_other _ _ ne).trans he) hd hsz h0 n2 dn fun h' T' l2 k x => ?_
  · show (s.heap.update T _).get? b = some o
    rw [Heap.get?_update_other _ _ fun z => ?_]
    · exact q
    · subst z; rw [hT] at q; cases q; exact nf _ dT
  · refine h h' T' ((l1.mono (by simp)).trans (l2.mono (by simp))) (Nat.le_trans (Nat.le_of_eq (Heap.size_after_update ..).symm) k) x
theorem flight {T : Addr} {fl : Value} {Q : Unit → Shared → Prop} (x : Exc e T cls a0 fl s.heap)
    (h : ∀ h', Lft [] [T] s.heap h' → Exc e T cls a0 .none h' → Q () { s with heap := h' }) : wpAny M A (setFlight (.ref e) none) Q E s := by
  obtain ⟨oe, vs, oT, ts, he, hc, hd, h0, n1, ne, hT, dT, h3, n2, dn⟩ := x
  have hs3 : 3 < ts.size := (Array.getElem?_eq_some_iff.mp h3).1
  unfold setFlight
  refine wpAny_bind (wpAny_field he hd n1 ?_)
  rw [if_pos (by simp)]
  refine wpAny_setField hT dT hs3 (h _ (Lft.fld hT dT _) ?_)
  refine ⟨oe, vs, _, _, ?_, hc, hd, h0, n1, ne, fld_self hT dT _, Obj.data_mapFields dT _, by simp [hs3], n2, dn⟩
  rw [Heap.get?_update_other _ _ ne]; exact he
end
end L2
namespace L2
open PySem PySem.Spec PyProof.Rows
def CXE (P : Program) (w : World) : CXT := fun outer H s E ev s' => ∃ a T cls t H', ev = .ref a ∧ s'.os = s.os ∧ AllBare s'.gens ∧ Un (frs outer) [] H H' s.heap s'.heap ∧ HOk P w H' s'.heap ∧
  s.heap.get? a = none ∧ s.heap.get? T = none ∧ H' a = none ∧ H' T = none ∧ Exc a T cls (.ref t) .none s'.heap ∧ E cls none H'
theorem HOk.lft {P : Program} {w : World} {H : Hp} {h h' : Heap} {S R : List Addr} (x : HOk P w H h) (l : Lft S R h h') (hS : ∀ b ∈ S, H b = none) (hR : ∀ b ∈ R, H b = none) : HOk P w H h' := by
  intro a o e
  refine (x a o e).stay (fun b u hb q => ?_) (fun _ q => q) fun _ _ q => q
  have hn : H b ≠ none := by
    rcases hb with z | z
    · subst z; rw [e]; exact fun z => nomatch z
    · rw [z]; exact fun z => nomatch z
  exact l.keep b u (fun z => hn (hR b z)) (fun z => hn (hS b z)) q
theorem ObjOk.at {P : Program} {w : World} {H : Hp} {h : Heap} {a : Addr} {o : HO} (x : ObjOk P w H h a o) : ∃ u, h.get? a = some u := by
  cases o with
  | lst xs => obtain ⟨_, _, _, _, e⟩ := x; exact ⟨_, e⟩
  | tup xs => obtain ⟨_, _, _, o, e, _⟩ := x; exact ⟨_, e⟩
  | dK kvs => obtain ⟨_, _, _, _, o, _, _, e, _⟩ := x; exact ⟨_, e⟩
  | dT kvs => obtain ⟨_, _, _, _, o, _, _, e, _⟩ := x; exact ⟨_, e⟩
  | set S n => obtain ⟨o, _, _, _, e, _⟩ := x; exact ⟨_, e⟩
  | ins C dx fs => obtain ⟨_, _, _, e, _⟩ := x; exact ⟨_, e⟩
  | own y => exact x
  | xd fs => obtain ⟨_, ⟨_, _, _, e, _⟩, _⟩ := x; exact ⟨_, e⟩
  | rng lo hi => obtain ⟨_, _, _, e⟩ := x; exact ⟨_, e⟩
  | frz ob u => obtain ⟨e, _⟩ := x; exact ⟨_, e⟩
  | tbl ps => exact ⟨_, (show h.get? a = some _ from x)⟩
  | met f y => exact ⟨_, (show h.get? a = some _ from x)⟩
  | ext φ => obtain ⟨_, e, _⟩ := x; exact e
theorem HOk.no {P : Program} {w : World} {H : Hp} {h : Heap} {a : Addr} (x : HOk P w H h) (e : h.get? a = none) : H a = none := by
  cases q : H a with
  | none => rfl
  | some o =>
    obtain ⟨u, z⟩ := (x a o q).at
    rw [e] at z
    cases z
theorem Un.no {fs : List Addr} {H H1 : Hp} {h h1 : Heap} {a : Addr} (u : Un fs [] H H1 h h1) (e : h1.get? a = none) : h.get? a = none := by
  cases q : h.get? a with
  | none => rfl
  | some o =>
    obtain ⟨o', z⟩ := u.there a o q (by simp)
    rw [e] at z
    cases z
theorem Un.lft {fs S R : List Addr} {H H1 : Hp} {h h1 h2 : Heap} (u : Un fs [] H H1 h h1) (l : Lft S R h1 h2) (hR : ∀ b ∈ R, h.get? b = none) (hS : ∀ b ∈ S, b ∈ fs ∨ h.get? b = none) : Un fs [] H H1 h h2 := by
  have nR : ∀ b o, h.get? b = some o → b ∉ R := fun b o q z => by rw [hR b z] at q; cases q
  refine ⟨fun b o q n m k => ?_, fun b o q n m k => ?_, u.free, fun b o q k => ?_, u.tups, u.frzs, u.tbls⟩
  · refine l.keep b o (nR b o q) (fun z => ?_) (u.keep b o q n m k)
    rcases hS b z with y | y
    · exact m y
    · rw [y] at q; cases q
  · obtain ⟨sl, z⟩ := u.slot b o q n m k
    obtain ⟨sl', y⟩ := l.slot b _ (nR b o q) z
    exact ⟨sl', y⟩
  · obtain ⟨o', z⟩ := u.there b o q k
    exact l.there b o' z
theorem fun_un {base : Heap} {H H2 : Hp} {h h2 : Heap} {fs : List Addr} (u : Un fs [] H H2 h h2) : ∀ {l : List Env}, h.FunFrames base l → (∀ b ∈ frs l, H b = none) → h2.FunFrames base l := by
  intro l
  induction l with
  | nil => intro _ _; trivial
  | cons env r ih =>
    intro hl hz
    obtain ⟨hk, ⟨L, o, hf, hn, ho, hd⟩, hr⟩ := hl
    have em : frs (env :: r) = L :: frs r := by unfold frs; rw [List.filterMap_cons, hf]
    rw [em] at hz
    obtain ⟨sl, q⟩ := u.any ho (hz L List.mem_cons_self) (by simp)
    exact ⟨hk, ⟨L, _, hf, hn, q, hd⟩, ih hr fun b z => hz b (List.mem_cons_of_mem _ z)⟩
theorem Un.trans1 {fs : List Addr} {L : Addr} {H H1 H2 : Hp} {h h1 h2 : Heap} (a : Un fs [] H H1 h h1) (b : Un (L :: fs) [] H1 H2 h1 h2) (hL : h.get? L = none) : Un fs [] H H2 h h2 := by
  have a' : Un (L :: fs) [] H H1 h h1 := a.mono (fun b z => List.mem_cons_of_mem _ z) fun _ z => z
  have c := a'.trans b
  refine ⟨fun x o q n m k => c.keep x o q n (fun z => ?_) k, fun x o q n m k => c.slot x o q n (List.mem_cons_of_mem _ m) k, c.free, c.there, c.tups, c.frzs, c.tbls⟩
  rcases List.mem_cons.mp z with y | y
  · rw [y, hL] at q; cases q
  · exact m y
def Rz (X : Cx) (E : XK) : Prop := ∀ (pins : List (Addr × Obj)) (σ : St) (H : Hp) (s : Shared) (h' : Heap) (a : Addr) (cls : Value) (vs : List Value), Inv X pins σ H s → Heap.MadeExcOf s.heap h' a cls vs → E cls none H → X.xe (.ref a) { s with heap := h' }
section
variable {P : Program} {w : World} {K : PySem.W.Frag} {mg : Str → Option Value} {base : Heap} {N : List Str} {qual : Str} {scope : Scope} {f : Addr} {cd : Value} {A : Around} {outer : List Env} {s : Shared} {H : Hp} {E : XK}
theorem loc_new {b : Addr} {pins : List (Addr × Obj)} {σ : St} {H1 : Hp} {s1 : Shared} (I : Inv (cxOf (CXE P w) P w K mg base N qual scope f cd A outer s H E) pins σ H1 s1)
    (z : b ∈ frs (envOfC qual scope s.heap.objs.size f cd :: outer)) : b ∈ frs outer ∨ s.heap.get? b = none := by
  have z : b ∈ (s.heap.objs.size :: frs outer) := z
  rcases List.mem_cons.mp z with y | y
  · exact .inr (Heap.get?_none_of_le (Nat.le_of_eq y.symm))
  · exact .inl y
theorem rz_fn : Rz (cxOf (CXE P w) P w K mg base N qual scope f cd A outer s H E) E := by
  intro pins σ H1 s1 h' a cls vs I M hE
  show wpAny _ (A.deeper _) (leaving _ (.ref a)) _ _ _
  unfold leaving
  obtain ⟨t, he, htn, ht⟩ := M.there
  have fr : (A.deeper (envOfC qual scope s.heap.objs.size f cd)).frames = some (envOfC qual scope s.heap.objs.size f cd :: outer) := I.ok.frames
  have fz := I.stkFree
  have ub : Un (frs outer) [] H H1 s.heap s1.heap := I.base
  have na := I.hok.no M.new
  have nT : ∀ T, h'.get? T = none → s1.heap.get? T = none := fun T q => by
    cases z : s1.heap.get? T with
    | none => rfl
    | some o => rw [M.keeps T o z] at q; cases q
  have hl : h'.FunFrames base (envOfC qual scope s.heap.objs.size f cd :: outer) := I.stack.of_keeps fun b o q _ => ⟨o, M.keeps b o q, rfl⟩
  refine wpAny_bind (note_new (s := { s1 with heap := h' }) fr hl rfl he rfl rfl rfl rfl rfl fun h2 T l2 kT x2 => ?_)
  refine flight (s := { s1 with heap := h2 }) x2 fun h3 l3 x3 => ?_
  have eT : s1.heap.get? T = none := nT T (Heap.get?_none_of_le kT)
  have u1 : Un (frs outer) [] H H1 s.heap h' := ub.trans (Un.kept M.keeps)
  have u2 := u1.lft l2 (fun b z => by rw [List.mem_singleton.mp z]; exact ub.no M.new) fun b z => loc_new I z
  have u3 := u2.lft l3 (fun b z => by rw [List.mem_singleton.mp z]; exact ub.no eT) fun b z => absurd z (by simp)
  have nTH := I.hok.no eT
  have k1 : HOk P w H1 h' := I.hok.kept M.keeps
  have k2 : HOk P w H1 h2 := k1.lft l2 (fun b z => fz b z) fun b z => by rw [List.mem_singleton.mp z]; exact na
  have k3 : HOk P w H1 h3 := k2.lft l3 (fun b z => absurd z (by simp)) fun b z => by rw [List.mem_singleton.mp z]; exact nTH
  exact ⟨a, T, cls, t, H1, rfl, I.os, I.bare, u3, k3, ub.no M.new, ub.no eT, na, nTH, x3, hE⟩
theorem pass_fn : Passes (CXE P w) (cxOf (CXE P w) P w K mg base N qual scope f cd A outer s H E) E := by
  intro pins σ H1 s1 ev s2 I c
  obtain ⟨a, T, cls, t, H2, rfl, os, bare, un, hok, ea, eT, na, nT, x, hE⟩ := c
  show wpAny _ (A.deeper _) (leaving _ (.ref a)) _ _ _
  unfold leaving
  have fr : (A.deeper (envOfC qual scope s.heap.objs.size f cd)).frames = some (envOfC qual scope s.heap.objs.size f cd :: outer) := I.ok.frames
  have un : Un (frs (envOfC qual scope s.heap.objs.size f cd :: outer)) [] H1 H2 s1.heap s2.heap := un
  have ub : Un (frs outer) [] H H1 s.heap s1.heap := I.base
  have fz : ∀ b ∈ frs (envOfC qual scope s.heap.objs.size f cd :: outer), H1 b = none := I.stkFree
  have fz2 : ∀ b ∈ frs (envOfC qual scope s.heap.objs.size f cd :: outer), H2 b = none := fun b z => by
    obtain ⟨_, o, q, _⟩ := I.stack.mem z
    exact un.free b o q (fz b z) (by simp)
  have hl : s2.heap.FunFrames base (envOfC qual scope s.heap.objs.size f cd :: outer) := fun_un un I.stack fz
  refine wpAny_bind (note_on fr hl rfl x fun h2 T' l2 kT x2 => ?_)
  refine flight (s := { s2 with heap := h2 }) x2 fun h3 l3 x3 => ?_
  have u1 : Un (frs outer) [] H H2 s.heap s2.heap := ub.trans1 un (Heap.get?_none_of_le (Nat.le_refl _))
  have eT' : s2.heap.get? T' = none := Heap.get?_none_of_le kT
  have nT' : H2 T' = none := hok.no eT'
  have ga := ub.no ea
  have gT := ub.no eT
  have two : ∀ b ∈ [a, T], s.heap.get? b = none ∧ H2 b = none := fun b z => by
    rcases List.mem_cons.mp z with y | y
    · rw [y]; exact ⟨ga, na⟩
    · rw [List.mem_singleton.mp y]; exact ⟨gT, nT⟩
  have u2 := u1.lft l2 (fun b z => (two b z).1) fun b z => loc_new I z
  have u3 := u2.lft l3 (fun b z => by rw [List.mem_singleton.mp z]; exact u1.no eT') fun b z => absurd z (by simp)
  have k2 : HOk P w H2 h2 := hok.lft l2 fz2 fun b z => (two b z).2
  have k3 : HOk P w H2 h3 := k2.lft l3 (fun b z => absurd z (by simp)) fun b z => by rw [List.mem_singleton.mp z]; exact nT'
  exact ⟨a, T', cls, t, H2, rfl, os.trans I.os, bare, u3, k3, ga, u1.no eT', na, nT', x3, hE⟩
end
end L2
namespace L2
open PySem PySem.Spec PyProof.Rows
abbrev bmVE : List Value := [.type "ValueError", .type "Exception", .type "BaseException", .type "object"]
theorem own_in {K : PySem.W.Frag} {h : Heap} {mg : Str → Option Value} {x : Str} {C : Addr} {bmB : List Value} {newId : String} (X : K.In h) (e : mg x = some (.ref C)) (q : PySem.W.excIn K C bmB newId = true) : OwnCls x C bmB newId mg h := by
  refine ⟨e, ?_⟩
  unfold PySem.W.excIn at q
  split at q
  · next dd cd sl ho =>
    split at q
    · next C' bm k0 k1 k2 k3 n k5 hm hs =>
      simp only [Bool.and_eq_true, beq_iff_eq, Bool.not_eq_true'] at q
      obtain ⟨⟨⟨⟨⟨q1, q2⟩, q3⟩, q4⟩, q5⟩, q6⟩ := q
      have sl' : sl = #[k0, k1, k2, k3, some (.builtin n), k5] := by rw [← hs]
      subst q1 q2 sl'
      cases cd
      simp only at hm q3 q5 q6
      subst hm q3
      exact ⟨_, _, _, _, _, _, _, _, _, _, _, _, _, _, _, _, _, X _ _ ho, .of_isNs (PySem.W.isNs_of_in X q5), PySem.W.nsMap_none_of_in X q5 q6, PySem.W.tail_of_in X q4⟩
    · cases q
  · cases q
section
variable {X : Cx} {x : Str} {C : Addr} {e : Expr} {es : List Expr} {t : TA} {np cpos pos : Pos} {E : XK}
theorem ps_raise (hk : PySem.W.excIn X.K C bmVE "ValueError.__new__" = true) (hc : X.calm = true) (hg : Gl X x) (hm : X.mg x = some (.ref C)) (ha : PA X (e :: es) t) (hR : Rz X E)
    (hd : (x == ("__debug__" : Str)) = false := by decide) (he : starEach (e :: es) X.env = (false, eval e X.env) :: starEach es X.env := by rfl) (hpl : (backTo cpos (starEach es X.env)).any (·.1) = false := by rfl) :
    PS X (.Raise (some (.Call (.Name x np) (e :: es) [] cpos)) none pos) (fun _ σ H => t σ H fun vs H1 => vs.length ≤ sizeLine ∧ E (.ref C) none H1) := by
  intro pins s σ H D I h
  have O := own_in I.ok.mod.kin hm hk
  obtain ⟨tl, N, nm, q, bs, hdct, sn, sub, ab, col, dd, k0, k1, k2, k3, k5, mN, hC, hN, hni, T⟩ := O.obj
  have pl : (backTo cpos (starEach (e :: es) X.env)).any (·.1) = false := by
    rw [he]
    show (false || (backTo cpos (starEach es X.env)).any (·.1)) = false
    rw [hpl]; rfl
  refine wpAny_Raise_call_subU (k5 := k5) (k3 := k3) (k2 := k2) (k1 := k1) (k0 := k0) (dd := dd) (col := col) (ab := ab) (sub := sub) (sn := sn) (hdct := hdct) (bs := bs) (N := N) (q := q) (nm := nm) F.excBase_ValueError rfl F.excBase_ValueError (T.hasType F.excBase_ValueError.hasBase) (I.ok.hd hc) pl hni (ld_glob I hg hm ⟨rfl, ?_⟩ hd)
  have h2 := ha cpos pins s σ H _ I h
  rw [he] at h2 ⊢
  refine Calls.evalArgs_plain (wpAny_mono h2 (fun us s2 h3 => ?_) fun _ _ y => y)
  obtain ⟨vs, H1, I1, r, z, q⟩ := h3
  exact ⟨rfl, by rw [← r.length]; exact z, I1.bk _ _ hC, hN.keeps I1.bk, T.keeps I1.bk, fun h' a m => hR pins σ H1 s2 h' a _ _ I1 m q⟩
end
section
variable {P : Program} {w : World} {K : PySem.W.Frag} {mg : Str → Option Value} {base : Heap}
theorem Fun.okX {x qual : Str} {st : Stmt} {f : Addr} {fd : FuncData} {N ps : List Str} {k : Nat} {sp : Sp} (F : Fun K x qual st f fd) (S : FnScope N ps (defScope st)) (len : ∀ vs H Q E, sp vs H Q E → vs.length = ps.length)
    (hbody : ∀ (cdv : Value) (A : Around) (outer : List Env) (s : Shared) (H : Hp) (vs : List V) (Q : VK) (E : XK), Room k (A.deeper (envOfC qual (defScope st) s.heap.objs.size f cdv)) → sp vs H Q E →
      ∃ t, PSs (cxOf (CXE P w) P w K mg base N qual (defScope st) f cdv A outer s H E) (defBody st) t ∧ t { nx := fun _ H' => Q .non H', rt := Q } (start N vs) H) : FnOk P w K mg base (CXE P w) (k + 1) f fd ps sp := by
  obtain ⟨oc, od, kV, doc, pm, an, cdv, ct, osl, rfl, lk, hcd⟩ := F.ex
  refine fn_of lk hcd S len fun A outer s H vs Q E hr hsp => ?_
  exact hbody cdv A outer s H vs Q E hr hsp
end
end L2
namespace L2
open PySem PySem.Spec PyProof.Rows
def exH (a : Addr) (cls : Value) : HO := .ext fun h => ∃ o vs, h.get? a = some o ∧ o.cls = cls ∧ o.data = .fields vs ∧ vs[2]? = some .none ∧ o.dict = none
theorem exH_ok {P : Program} {w : World} {H : Hp} {h : Heap} {a T : Addr} {cls a0 fl : Value} (x : Exc a T cls a0 fl h) : ObjOk P w H h a (exH a cls) := by
  obtain ⟨o, vs, _, _, e, c, d, _, _, _, _, _, _, n2, dn⟩ := x
  refine ⟨⟨o, vs, e, c, d, n2, dn⟩, ⟨o, e⟩, fun h1 h2 q k => ?_⟩
  obtain ⟨o1, vs1, e1, c1, d1⟩ := q
  exact ⟨o1, vs1, k o1 e1, c1, d1⟩
theorem HOk.add {P : Program} {w : World} {H : Hp} {h : Heap} {a : Addr} {o : HO} (x : HOk P w H h) (n : H a = none) (new : ObjOk P w (upd H a o) h a o) : HOk P w (upd H a o) h := by
  intro b u e
  by_cases z : b = a
  · subst z; rw [upd_same] at e; cases e; exact new
  · rw [upd_ne z] at e
    exact (x b u e).stay (fun _ _ _ q => q) (fun c q => by rw [upd_ne (ne_of_none q n)]; exact q) fun c xs q => by rw [upd_ne (ne_of_none q n)]; exact q
theorem Un.add {fs : List Addr} {H H1 : Hp} {h h1 : Heap} {a : Addr} {o : HO} (u : Un fs [] H H1 h h1) (n : H1 a = none) (e : h.get? a = none) : Un fs [] H (upd H1 a o) h h1 := by
  refine ⟨u.keep, u.slot, fun b ob q m k => ?_, u.there, fun b xs q => ?_, fun b ob v q => ?_, fun b ps q => ?_⟩
  · rw [upd_ne fun z => by subst z; rw [e] at q; cases q]
    exact u.free b ob q m k
  · have z := u.tups b xs q
    rw [upd_ne (ne_of_none z n)]; exact z
  · have z := u.frzs b ob v q
    rw [upd_ne (ne_of_none z n)]; exact z
  · obtain ⟨m, z⟩ := u.tbls b ps q
    exact ⟨m, by rw [upd_ne (ne_of_none z n)]; exact z⟩
section
variable {P : Program} {w : World} {M : Model} {A : Around} {env : Env} {outer : List Env} {L : Addr} {base : Heap} {H : Hp} {s s' : Shared} {E : XK} {EE : Value → Shared → Prop} {ev : Value}
theorem noted {Q : Unit → Shared → Prop} (hfr : A.frames = some (env :: outer)) (hf : env.frame = some L) (hl : s.heap.FunFrames base (env :: outer)) (fz : ∀ b ∈ frs (env :: outer), H b = none) (c : CXE P w (env :: outer) H s E ev s')
    (h : ∀ s2, CXE P w (env :: outer) H s E ev s2 → Q () s2) : wpAny M A (noteFrame ev env) (fun _ s2 => wpAny M A (setFlight ev none) Q EE s2) EE s' := by
  obtain ⟨a, T, cls, t, H2, rfl, os, bare, un, hok, ea, eT, na, nT, x, hE⟩ := c
  have fz2 : ∀ b ∈ frs (env :: outer), H2 b = none := fun b z => by
    obtain ⟨_, o, q, _⟩ := hl.mem z
    exact un.free b o q (fz b z) (by simp)
  refine note_on hfr (fun_un un hl fz) hf x fun h2 T' l2 kT x2 => ?_
  refine flight (s := { s' with heap := h2 }) x2 fun h3 l3 x3 => h _ ?_
  have eT' : s'.heap.get? T' = none := Heap.get?_none_of_le kT
  have nT' : H2 T' = none := hok.no eT'
  have two : ∀ b ∈ [a, T], s.heap.get? b = none ∧ H2 b = none := fun b z => by
    rcases List.mem_cons.mp z with y | y
    · rw [y]; exact ⟨ea, na⟩
    · rw [List.mem_singleton.mp y]; exact ⟨eT, nT⟩
  have u2 := un.lft l2 (fun b z => (two b z).1) fun b z => .inl z
  have u3 := u2.lft l3 (fun b z => by rw [List.mem_singleton.mp z]; exact un.no eT') fun b z => absurd z (by simp)
  have k2 : HOk P w H2 h2 := hok.lft l2 fz2 fun b z => (two b z).2
  have k3 : HOk P w H2 h3 := k2.lft l3 (fun b z => absurd z (by simp)) fun b z => by rw [List.mem_singleton.mp z]; exact nT'
  exact ⟨a, T', cls, t, H2, rfl, os, bare, u3, k3, ea, un.no eT', na, nT', x3, hE⟩
theorem flown {Q : Unit → Shared → Prop} (c : CXE P w outer H s E ev s') (h : ∀ s2, CXE P w outer H s E ev s2 → Q () s2) : wpAny M A (setFlight ev none) Q EE s' := by
  obtain ⟨a, T, cls, t, H2, rfl, os, bare, un, hok, ea, eT, na, nT, x, hE⟩ := c
  refine flight x fun h3 l3 x3 => h _ ?_
  have u3 := un.lft l3 (fun b z => by rw [List.mem_singleton.mp z]; exact eT) fun b z => absurd z (by simp)
  have k3 : HOk P w H2 h3 := hok.lft l3 (fun b z => absurd z (by simp)) fun b z => by rw [List.mem_singleton.mp z]; exact nT
  exact ⟨a, T, cls, t, H2, rfl, os, bare, u3, k3, ea, eT, na, nT, x3, hE⟩
end
section
variable {X : Cx} {pins : List (Addr × Obj)} {σ : St} {H : Hp} {s s' : Shared} {E : XK} {ev : Value}
def XP (X : Cx) (pins : List (Addr × Obj)) (σ : St) (E : XK) (ev : Value) (s' : Shared) : Prop := ∃ H s, Inv X pins σ H s ∧ CXE X.prog X.w X.stack H s E ev s'
theorem Inv.caught (I : Inv X pins σ H s) (c : CXE X.prog X.w X.stack H s E ev s') : ∃ a cls H', ev = .ref a ∧ H' a = none ∧ E cls none H' ∧ Inv X pins σ (upd H' a (exH a cls)) s' ∧ ∃ o, s'.heap.get? a = some o ∧ o.cls = cls := by
  obtain ⟨a, T, cls, t, H2, rfl, os, bare, un, hok, ea, eT, na, nT, x, hE⟩ := c
  obtain ⟨o, _, _, _, e, cc, _⟩ := id x
  exact ⟨a, cls, H2, rfl, na, hE, I.call' (ch := []) os (un.add na ea) (hok.add na (exH_ok x)) bare fun b z => absurd z (by simp), o, e, cc⟩
end
end L2
namespace L2
open PySem PySem.Spec PyProof.Rows
section
variable {X : Cx} {pins : List (Addr × Obj)} {σ : St} {H : Hp} {s : Shared}
theorem drop_ok {M : Model} {A : Around} {E : Value → Shared → Prop} {i : Nat} {x : Str} {pos : Pos} {Q : Unit → Shared → Prop} (I : Inv X pins σ H s) (hN : X.N.Nodup) (hi : X.N[i]? = some x) (hk : X.env.scope.names.lookup x = some .local)
    (h : ∀ s', Inv X pins (σ.set i none) H s' → Q () s') : wpAny M A (do bindName X.env x .none; unbindBehindTheSuite X.env x pos) Q E s := by
  refine wpAny_bind (wpAny_bindName (store_ok (v := .non) I hN hi (.inl hk) rfl (fun s1 I1 => ?_) (.inr hk)))
  unfold unbindBehindTheSuite
  refine wpAny_onRaise ?_
  obtain ⟨m, hn, hl⟩ := id I1.loc
  have hcls : (X.env.scope.kind == .class || (X.env.scope.kind == .module && X.env.locals != X.env.globals)) = false := by rw [I.ok.kind]; rfl
  have hlen : i < σ.length := by rw [I.len]; exact (List.getElem?_eq_some_iff.mp hi).1
  obtain ⟨u, _, lk⟩ := hl i x .non hi (List.getElem?_set_self hlen) (.inl hk)
  have hv : m x = some u := by
    rcases lk with ⟨_, z⟩ | ⟨z, _⟩
    · exact z
    · rcases z with z | z
      · rw [show X.env.kindOf x = some .local from hk] at z; cases z
      · rw [show X.env.kindOf x = some .local from hk] at z; cases z
  refine wpAny_unbindName_local hk hn hv hcls fun h' v hn' hs => h _ ?_
  have lt : ∀ b o, X.s₀.heap.get? b = some o → b ≠ X.env.locals := fun b o e => Nat.ne_of_lt (Nat.lt_of_lt_of_le (Heap.lt_size e) I1.ok.above)
  have cne := I1.cne
  refine ⟨I1.ok, I1.os, I1.bare, ⟨fun b o e n hb hx => ?_, fun b o e n hb hx => ?_, I1.base.free, fun b o e hx => ?_, I1.base.tups, I1.base.frzs, I1.base.tbls⟩, ⟨_, hn', fun j y w e1 e2 e3 => ?_⟩, fun y c e => ?_, I1.free, I1.freeC, fun p hp => ?_, fun b ob e => ?_, by rw [List.length_set]; exact I.len⟩
  · rw [hs.2 b (lt b o e)]; exact I1.base.keep b o e n hb hx
  · obtain ⟨sl, z⟩ := I1.base.slot b o e n hb hx
    exact ⟨sl, by rw [hs.2 b (lt b o e)]; exact z⟩
  · obtain ⟨o', z⟩ := I1.base.there b o e hx
    exact ⟨o', by rw [hs.2 b (lt b o e)]; exact z⟩
  · by_cases hj : j = i
    · subst hj
      rw [List.getElem?_set_self hlen] at e2
      cases e2
    · rw [List.getElem?_set_ne (Ne.symm hj)] at e2
      obtain ⟨u', r', q⟩ := hl j y w e1 (by rw [List.getElem?_set_ne (Ne.symm hj)]; exact e2) e3
      refine ⟨u', r', ?_⟩
      rcases q with ⟨k, e⟩ | ⟨k, c, e, z⟩
      · have ny : y ≠ x := fun e => hj (nodup_ix hN e1 (e ▸ hi))
        exact .inl ⟨k, by simp [ny, e]⟩
      · exact .inr ⟨k, c, e, z.sameBut hs (cne y c e)⟩
  · obtain ⟨w', z⟩ := I1.cell y c e
    exact ⟨w', z.sameBut hs (cne y c e)⟩
  · obtain ⟨e, n, ne, nf, d⟩ := I1.pin p hp
    exact ⟨by rw [hs.2 p.1 ne]; exact e, n, ne, nf, d⟩
  · refine (I1.hok b ob e).stay (fun c w' hc q => ?_) (fun _ q => q) fun _ _ q => q
    rw [hs.2 c fun z => ?_]
    · exact q
    · rcases hc with y | y
      · rw [← y, z, I1.free] at e; cases e
      · rw [z, I1.free] at y; cases y
end
abbrev TEX := St → Hp → VK → XK → Prop
abbrev TSX := Ends → XK → St → Hp → Prop
def PEx (X : Cx) (e : Expr) (t : TEX) : Prop :=
  ∀ (pins : List (Addr × Obj)) (s : Shared) (σ : St) (H : Hp) (Q : VK) (E : XK), Inv X pins σ H s → t σ H Q E → wpAny (model X.prog X.w) X.A (eval e X.env) (EP X pins σ Q) (XP X pins σ E) s
def PX (X : Cx) (st : Stmt) (t : TSX) : Prop :=
  ∀ (pins : List (Addr × Obj)) (s : Shared) (σ : St) (H : Hp) (D : Ends) (E : XK), Inv X pins σ H s → t D E σ H → wpAny (model X.prog X.w) X.A (exec st X.env) (SP X pins D) (XP X pins σ E) s
def PXs (X : Cx) (st : List Stmt) (t : TSX) : Prop :=
  ∀ (pins : List (Addr × Obj)) (s : Shared) (σ : St) (H : Hp) (D : Ends) (E : XK), Inv X pins σ H s → t D E σ H → wpAny (model X.prog X.w) X.A (execs st X.env) (SP X pins D) (XP X pins σ E) s
section
variable {X : Cx} {k : Nat} {f C : Addr} {fd : FuncData} {ps : List Str} {sp : Sp} {dvs : List V} {ds : List Value} {x m : Str} {p pos apos : Pos} {e o : Expr} {es : List Expr} {ta : TE} {t : TA} {tx : TEX} {i : Nat} {st : Stmt} {u v : TSX} {a b : List Stmt}
theorem run_fnX {pins : List (Addr × Obj)} {σ : St} {H : Hp} {s : Shared} {Q : VK} {E : XK} {us : List Value} {vs : List V} (F : FnOk X.prog X.w X.K X.mg X.base (CXE X.prog X.w) k f fd ps sp) (hr : Room k X.A) (hb : Binds X.K fd ps ds) (hd : Vals dvs ds)
    (I : Inv X pins σ H s) (r : Vals vs us) (h : sp (vs ++ dvs) H Q E) : wpAny (model X.prog X.w) X.A (call (.ref f) us) (EP X pins σ Q) (XP X pins σ E) s := by
  have r2 : Vals (vs ++ dvs) (us ++ ds) := r.append hd
  have hl : (us ++ ds).length = ps.length := by rw [← r2.length]; exact F.len _ _ _ _ h
  refine wpAny_call (codeAny_mono (F.run X.A X.stack s H ⟨us, []⟩ (us ++ ds) (vs ++ dvs) Q E hr I.env0 (hb s us I.kIn hl) r2 h) fun r s' hq => ?_)
  cases r with
  | error e => exact ⟨H, s, I, hq⟩
  | ok fl =>
    cases fl with
    | ret u => exact I.after hq
    | next => exact False.elim hq
    | brk => exact False.elim hq
    | cont => exact False.elim hq
theorem pex_call (F : FnOk X.prog X.w X.K X.mg X.base (CXE X.prog X.w) k f fd ps sp) (hr : Room k X.A) (hg : Gl X x) (hm : X.mg x = some (.ref f)) (hk : PySem.W.keepIn X.K (.ref f) = true) (hb : Binds X.K fd ps ds) (hd : Vals dvs ds)
    (ha : PA X.nox (e :: es) t) (hdb : (x == ("__debug__" : Str)) = false := by decide) (he : starEach (e :: es) X.env = (false, eval e X.env) :: starEach es X.env := by rfl) (hpl : (backTo pos (starEach es X.env)).any (·.1) = false := by rfl) :
    PEx X (.Call (.Name x p) (e :: es) [] pos) (fun σ H Q E => t σ H fun vs H1 => sp (vs ++ dvs) H1 Q E) := by
  intro pins s σ H Q E I h
  refine wpAny_Call_Name_kw (ld_glob I hg hm ?_ hdb)
  refine PySem.W.callWith_K (h₀ := X.base) I.ok.mod.kin hk (wpAny_mono (ha pos pins s σ H _ (I.wish _) h) (fun us s1 q => ?_) fun _ _ z => False.elim z) he hpl
  obtain ⟨vs, H1, I1, r, q⟩ := q
  exact ⟨I1.kIn, run_fnX F hr hb hd I1.unwish r q⟩
theorem px_set {pos' : Pos} (hN : X.N.Nodup) (hi : X.N[i]? = some x) (hx : Loc X.env.scope x) (he : PEx X e tx) (hs : swapsWith e (some (.Name x pos')) pos.line X.env = pure false := by rfl)
    (hf : X.fn x = true ∨ X.env.scope.names.lookup x = some .local := by first | exact .inl rfl | exact .inr rfl | assumption) :
    PX X (.Assign [.Name x pos'] e pos) (fun D E σ H => tx σ H (fun y H1 => D.nx (σ.set i (some y)) H1) E) := by
  intro pins s σ H D E I h
  refine wpAny_Assign_Name (thn (he pins s σ H _ E I h) fun v s1 q => ?_) hs
  obtain ⟨y, H1, I1, r1, q1⟩ := q
  exact store_ok I1 hN hi hx r1 (fun s2 I2 => ⟨_, H1, I2, q1⟩) hf
theorem px_if {c : Expr} {tc : TT} (hc : PT X.nox c tc) (ha : PXs X a u) (hb : PXs X b v) : PX X (.If c a b pos) (fun D E σ H => tc σ H fun d H1 => if d = true then u D E σ H1 else v D E σ H1) := by
  intro pins s σ H D E I h
  refine wpAny_If (wpAny_mono (hc pins s σ H _ (I.wish _) h) (fun d s1 q => ?_) fun _ _ z => False.elim z)
  obtain ⟨H1, I1, q1⟩ := q
  cases d with
  | true => exact ha pins s1 σ H1 D E I1.unwish q1
  | false => exact hb pins s1 σ H1 D E I1.unwish q1
theorem pxs_one (h : PX X st u) : PXs X [st] u := by
  intro pins s σ H D E I q
  refine wpAny_execs_cons (thn (h pins s σ H D E I q) fun f s1 z => ?_)
  cases f with
  | next => exact wpAny_execs_nil z
  | brk => exact z
  | cont => exact z
  | ret u => exact z
end
end L2
namespace L2
open PySem PySem.Spec PyProof.Rows
abbrev Cx.hand (X : Cx) (a : Addr) : Cx := { X with A := X.A.mark (some (.ref a)), calm := false, xe := fun _ _ => False }
section
variable {X : Cx} {pins : List (Addr × Obj)} {σ : St} {H : Hp} {s : Shared} {a : Addr}
theorem Inv.hand (I : Inv X pins σ H s) (a : Addr) : Inv (X.hand a) pins σ H s := by
  have ok := I.ok
  exact ⟨⟨ok.mod, ok.kind, ok.glob, ok.blt, ok.above, ok.inj, ok.has, ok.cab, (fun z => nomatch z), ok.frames, ok.stk, ok.exf, ok.bs, ok.bsz, ok.noex, ok.exfs, ok.funs, ok.frf⟩, I.os, I.bare, I.base, I.loc, I.cell, I.free, I.freeC, I.pin, I.hok, I.len⟩
theorem Inv.back (ok : X.Ok) (I : Inv (X.hand a) pins σ H s) : Inv X pins σ H s := ⟨ok, I.os, I.bare, I.base, I.loc, I.cell, I.free, I.freeC, I.pin, I.hok, I.len⟩
end
def Ends.less (D : Ends) (i : Nat) : Ends := { nx := fun σ H => D.nx (σ.set i none) H, rt := D.rt, bk := fun σ H => D.bk (σ.set i none) H, ct := fun σ H => D.ct (σ.set i none) H }
def tTryAs (K : PySem.W.Frag) (C : Addr) (i : Nat) (tb : TSX) (ts : Addr → TS) : TS := fun D σ H =>
  tb D (fun cls _ H' => PySem.W.exmOne K cls (.ref C) = some true ∧ ∀ a, H' a = none → ts a (D.less i) (σ.set i (some (.ref a))) (upd H' a (exH a cls))) σ H
section
variable {X : Cx} {i : Nat} {n x : Str} {C : Addr} {body suite : List Stmt} {b₀ : Stmt} {np hpos pos : Pos} {tb : TSX} {ts : Addr → TS}
theorem looks_cls {M : Model} {h : Heap} {a : Addr} {o : Obj} {c : Value} (e : h.get? a = some o) (q : o.cls = c) : PySem.W.Looks M h (typeOf (.ref a)) c := by
  subst q
  exact (PySem.W.Looks.ld e).andThen .now
theorem ps_tryAs (hN : X.N.Nodup) (hi : X.N[i]? = some n) (hk : X.env.scope.names.lookup n = some .local) (hst : X.stack = X.env :: X.outer) (hf : X.env.frame = some X.env.locals) (hg : Gl X x) (hm : X.mg x = some (.ref C))
    (hb : PXs X body tb) (hs : ∀ a, PSs (X.hand a) (b₀ :: suite) (ts a)) (hdb : (x == ("__debug__" : Str)) = false := by decide) :
    PS X (.Try body [.ExceptHandler (some (.Name x np)) (some n) (b₀ :: suite) hpos] [] [] pos) (tTryAs X.K C i tb ts) := by
  intro pins s σ H D I h
  refine wpAny_Try_except (wpAny_mono (hb pins s σ H D _ I h) (fun f s1 q => ?_) fun ev s1 q => ?_)
  · cases f with
    | next => exact wpAny_execs_nil q
    | brk => exact q
    | cont => exact q
    | ret u => exact q
  · obtain ⟨H1, s0, I0, c⟩ := q
    have hl := I0.stack
    have fz := I0.stkFree
    rw [hst] at hl fz c
    have fr : X.A.frames = some (X.env :: X.outer) := by rw [← hst]; exact I0.ok.frames
    refine noted fr hf hl fz c fun s2 c2 => ?_
    have c2' := c2
    rw [← hst] at c2'
    obtain ⟨a, cls, H2, rfl, na, hE, J, o, go, co⟩ := I0.caught c2'
    refine wpAny_handleBy_cons (codeAny_handlers_test ?_) (by intro q; cases q)
    refine ld_glob (J.hand a) hg hm ?_ hdb
    refine PySem.W.exm_one J.kIn (looks_cls go co) hE.1 _ _ _ s2 (fun _ _ q => q) ?_
    refine codeAny_handlers_suite_as ?_
    refine flown c2 fun s3 c3 => ?_
    rw [← hst] at c3
    obtain ⟨a', cls3, H3, e3, na3, hE3, J3, _⟩ := I0.caught c3
    cases e3
    refine store_ok (X := X.hand a) (v := .ref a) (J3.hand a) hN hi (.inl hk) rfl (fun s4 I4 => ?_) (.inr hk)
    refine wpAny_mono (hs a pins s4 _ _ _ I4 (hE3.2 a na3)) (fun f s5 q => ?_) fun _ _ z => False.elim z
    cases f with
    | next =>
      obtain ⟨σ', H', I', q⟩ := q
      exact drop_ok (I'.back I.ok) hN hi hk fun s6 I6 => ⟨_, H', I6, q⟩
    | brk =>
      obtain ⟨σ', H', I', q⟩ := q
      exact drop_ok (I'.back I.ok) hN hi hk fun s6 I6 => ⟨_, H', I6, q⟩
    | cont =>
      obtain ⟨σ', H', I', q⟩ := q
      exact drop_ok (I'.back I.ok) hN hi hk fun s6 I6 => ⟨_, H', I6, q⟩
    | ret u =>
      obtain ⟨v, σ', H', I', r, q⟩ := q
      exact drop_ok (I'.back I.ok) hN hi hk fun s6 I6 => ⟨v, _, H', I6, r, q⟩
end
end L2
namespace L2
open PySem PySem.Spec PyProof.Rows
theorem entry_unchain : entryFor table "proto.unchain" = some Builtin.«proto.unchain» := entryFor_of_fast (by kernel_rfl)
section
variable {prog : Program} {w : World} {A : Around} {E : Value → Shared → Prop} {s : Shared}
def Lone (h : Heap) (a : Addr) : Prop := ∃ o vs, h.get? a = some o ∧ o.data = .fields vs ∧ vs[2]? = some .none
theorem unchain_lone {e : Value} {a : Addr} {Q : Value → Shared → Prop} (l : Lone s.heap a) (h : Q .none s) : wpAny (model prog w) A (runValue (.builtin "proto.unchain" ⟨[e, .ref a, .ref a, .bool false], []⟩)) Q E s := by
  obtain ⟨o, vs, g, d, n⟩ := l
  refine wpAny_runValue (codeAny_builtin entry_unchain ?_)
  show wpAny _ _ (field (.ref a) 2 >>= _) _ _ s
  refine wpAny_bind (wpAny_field g d n ?_)
  rw [if_pos (by rfl)]
  unfold ret
  exact wpAny_pure h
theorem raise_on {α : Type} {a b : Addr} {o : Obj} {vs : Array Value} {Q : α → Shared → Prop} (hh : A.handled = some (.ref a)) (ne : a ≠ b) (l : Lone s.heap a) (g : s.heap.get? b = some o) (d : o.data = .fields vs) (z : 2 < vs.size)
    (h : E (.ref b) { s with heap := s.heap.update b (Obj.mapFields (·.setIfInBounds 2 (.ref a))) }) : wpAny (model prog w) A (raiseNew (.ref b) : Sem α) Q E s := by
  unfold raiseNew
  refine wpAny_bind (wpAny_handled ?_)
  rw [hh]
  dsimp only
  rw [if_pos (by simp [ne])]
  refine wpAny_bind (wpAny_holding (unchain_lone l ?_))
  unfold updateField
  refine wpAny_bind (wpAny_bind (wpAny_load g ?_))
  rw [d]
  dsimp only
  rw [if_pos z]
  exact wpAny_update g (wpAny_throw h)
theorem range_end_on {it a : Addr} {x left step : Int} {Q : Option Value → Shared → Prop} (hh : A.handled = some (.ref a)) (l : Lone s.heap a) (hit : IsRangeIter s.heap it x left step) (hleft : left ≤ 0)
    (hQ : ∀ h', (∀ b o, s.heap.get? b = some o → h'.get? b = some o) → Q none { s with heap := h' }) : wpAny (model prog w) A (pyNext (.ref it)) Q E s := by
  have ty : s.TypeIs (.ref it) "range_iterator" := ⟨_, hit, rfl⟩
  obtain ⟨oa, va, ga, da, na⟩ := id l
  unfold pyNext
  refine wpAny_bind (wpAny_attempt (wpAny_callSpecial?_slot (name := Str.ofString "__next__") ty F.slot_range_iterator_next (wpAny_call_entry F.slot_range_iterator_next ty F.entry_range_iterator_next ?_ (F.args_range_iterator_next_1 _))))
  show wpAny _ _ (field (.ref it) 0 >>= _) _ _ s
  refine wpAny_bind (wpAny_field hit rfl (x := rawInt x) rfl ?_)
  show wpAny _ _ (field (.ref it) 1 >>= _) _ _ s
  refine wpAny_bind (wpAny_field hit rfl (x := rawInt left) rfl ?_)
  show wpAny _ _ (field (.ref it) 2 >>= _) _ _ s
  refine wpAny_bind (wpAny_field hit rfl (x := rawInt step) rfl ?_)
  show wpAny _ _ (if left ≤ 0 then _ else _) _ _ s
  rw [if_pos hleft]
  refine wpAny_bind (wpAny_rule (wpAny_bind ?_))
  show wpAny _ _ (newExc (.type "StopIteration") [] >>= _) _ _ _
  refine wpAny_bind ?_
  simp only [newExc, newTuple]
  refine wpAny_bind (wpAny_newObj_type ?_ (by size_fits))
  refine wpAny_bind (m := firstArgMember _ _) (wpAny_of_eq (a := Value.none) (by first | rfl | (simp only [firstArgMember]; rfl)) ?_)
  refine wpAny_newObj_type ?_ (by size_fits)
  have ne : a ≠ (s.heap.push { cls := Value.type "tuple", data := Data.seq #[] }).objs.size := Nat.ne_of_lt (Heap.lt_size (Heap.get?_push_of_some _ ga))
  refine raise_on (a := a) hh ne ⟨oa, va, Heap.get?_push_of_some _ (Heap.get?_push_of_some _ ga), da, na⟩ (Heap.get?_push_size _ rfl) rfl (by rw [Array.size_append]; exact Nat.lt_of_lt_of_le (by decide : 2 < 6) (Nat.le_add_right _ _)) ?_
  refine wpAny_bind (wpAny_isInstance (T := "StopIteration") (b := true) ⟨_, fld_self (Heap.get?_push_size _ rfl) rfl _, Obj.cls_mapFields _ _⟩ isSubtype_stop ?_)
  refine wpAny_pure (hQ _ fun b o q => ?_)
  show (Heap.update _ _ _).get? b = some o
  rw [Heap.get?_update_other _ _ (Ne.symm (Nat.ne_of_lt (Heap.lt_size (Heap.get?_push_of_some _ q))))]
  exact Heap.get?_push_of_some _ (Heap.get?_push_of_some _ q)
end
end L2
namespace L2
open PySem PySem.Spec PyProof.Rows
def ItrU (ea : Addr) (ecl : Value) (lo : Int) (n : Nat) : It := ⟨fun i _ => i < n, fun i H x H' => H' = H ∧ x = .int (lo + i), fun i H => n ≤ i ∧ H ea = some (exH ea ecl)⟩
structure TurnU (ea : Addr) (ecl : Value) (P : Program) (w : World) (K : PySem.W.Frag) (tg : Expr) (J : It) (fp : List Addr) (it : Addr) (tn : Nat → Heap → Prop) : Prop where
  mem : it ∈ fp
  obj : ∀ i h, tn i h → ∀ b ∈ fp, ∃ o, h.get? b = some o ∧ ∀ v, o.data ≠ .cell v
  keep : ∀ i h h', tn i h → (∀ b ∈ fp, ∀ o, h.get? b = some o → h'.get? b = some o) → tn i h'
  item : ∀ (X : Cx), X.prog = P → X.w = w → X.K = K → X.A.handled = some (.ref ea) → ∀ (i : Nat) (pins : List (Addr × Obj)) (s : Shared) (σ : St) (H : Hp) (E : Value → Shared → Prop), Inv X pins σ H s → (∀ b ∈ fp, FpOk X pins H b) → tn i s.heap → J.go i H →
    wpAny (model P w) X.A (pyNext (.ref it)) (fun r s1 => ∃ u, r = some u ∧
      wpAny (model P w) X.A (letOwnedTupleGo tg (.ref it) u) (fun _ s2 => ∃ x H', Inv X pins σ H' s2 ∧ RelV x u ∧ J.yld i H x H' ∧ tn (i + 1) s2.heap ∧ ∀ b ∈ fp, H' b = none) E s1) E s
  done : ∀ (X : Cx), X.prog = P → X.w = w → X.K = K → X.A.handled = some (.ref ea) → ∀ (i : Nat) (pins : List (Addr × Obj)) (s : Shared) (σ : St) (H : Hp) (E : Value → Shared → Prop), Inv X pins σ H s → (∀ b ∈ fp, FpOk X pins H b) → tn i s.heap → J.stop i H →
    wpAny (model P w) X.A (pyNext (.ref it)) (fun r s1 => r = none ∧ Inv X pins σ H s1) E s
  self : ∀ (A : Around) (i : Nat) (s : Shared) (Q : Value → Shared → Prop) (E : Value → Shared → Prop), tn i s.heap → Q (.ref it) s → wpAny (model P w) A (pyIter (.ref it)) Q E s
def PIEU (ea : Addr) (ecl : Value) (X : Cx) (pins : List (Addr × Obj)) (σ : St) (tg : Expr) (R : It → Hp → Prop) (itv : Value) (s2 : Shared) : Prop :=
  ∃ (it : Addr) (fp : List Addr) (tn : Nat → Heap → Prop) (J : It) (H' : Hp), itv = .ref it ∧ Inv X pins σ H' s2 ∧ TurnU ea ecl X.prog X.w X.K tg J fp it tn ∧ tn 0 s2.heap ∧ (∀ b ∈ fp, FpOk X pins H' b) ∧ R J H'
def PIU (ea : Addr) (ecl : Value) (X : Cx) (tg iter : Expr) (wi : TI) : Prop :=
  ∀ (pins : List (Addr × Obj)) (s : Shared) (σ : St) (H : Hp) (R : It → Hp → Prop), Inv X pins σ H s → wi σ H R →
    wpAny (model X.prog X.w) X.A (eval iter X.env) (fun v s1 => wpAny (model X.prog X.w) X.A (pyIter v) (PIEU ea ecl X pins σ tg R) X.xe s1) X.xe s
theorem turn_rangeU {ea : Addr} {ecl : Value} {P : Program} {w : World} {K : PySem.W.Frag} {tg : Expr} (it : Addr) (lo : Int) (n : Nat) : TurnU ea ecl P w K tg (ItrU ea ecl lo n) [it] it (fun i h => IsRangeIter h it (lo + (i : Nat) * 1) ((n : Int) - (i : Nat)) 1) where
  mem := by simp
  obj := fun i h st b hb => by
    have e : b = it := by simpa using hb
    subst e
    exact ⟨_, st, fun v z => by
      have z' : Data.fields _ = Data.cell v := z
      cases z'⟩
  keep := fun i h h' st k => k it (by simp) _ st
  item := by
    intro X hP hw hK hc i pins s σ H E I hf st hg
    subst hP hw hK
    obtain ⟨f0, f1, f2, f3, f4, f5⟩ := hf it (by simp)
    have g' : i < n := hg
    refine wpAny_pyNext_range_item st (by omega) fun h' st' sb => ?_
    have I1 : Inv X pins σ H { s with heap := h', toks := s.toks + 1 } := I.turned (fun b o hb e => (sb.2 b hb).trans e) f0 f1 f3 f4 f5
    have e1 : lo + (i : Int) * 1 + 1 = lo + ((i + 1 : Nat) : Int) * 1 := by omega
    have e2 : (n : Int) - (i : Int) - 1 = (n : Int) - ((i + 1 : Nat) : Int) := by omega
    rw [e1, e2] at st'
    refine ⟨_, rfl, go_of (s := { s with heap := h', toks := s.toks + 1 }) (n := "range_iterator") st' rfl rfl (by decide) ⟨.int (lo + i), H, I1, ⟨s.toks, ?_⟩, ⟨rfl, rfl⟩, st', fun b hb => (hf b hb).1⟩⟩
    rw [Int.mul_one]
  done := by
    intro X hP hw hK hc i pins s σ H E I hf st hg
    subst hP hw hK
    obtain ⟨f0, f1, f2, f3, f4, f5⟩ := hf it (by simp)
    obtain ⟨hn, he⟩ : n ≤ i ∧ H ea = some (exH ea ecl) := hg
    have lone : Lone s.heap ea := by
      obtain ⟨⟨o, vs, q1, _, q2, q3, _⟩, _⟩ := I.hok ea _ he
      exact ⟨o, vs, q1, q2, q3⟩
    exact range_end_on hc lone st (by omega) fun h' eb => ⟨rfl, I.turned (t' := s.toks) (fun b o hb e => eb b o e) f0 f1 f3 f4 f5⟩
  self := fun _ _ _ _ _ st h => wpAny_pyIter_rangeiter st h
section
variable {ea : Addr} {ecl : Value} {X : Cx} {tg : Expr}
theorem range_itU {pins : List (Addr × Obj)} {σ : St} {H : Hp} {s : Shared} {R : It → Hp → Prop} {E : Value → Shared → Prop} {lo hi : Int} {t u v : Tok} {tk : Nat} (I : Inv X pins σ H s) (h1 : -(2 ^ 62) ≤ lo) (h2 : lo < 2 ^ 62) (h3 : -(2 ^ 62) ≤ hi) (h4 : hi < 2 ^ 62)
    (q : R (ItrU ea ecl lo (hi - lo).toNat) H) : wpAny (model X.prog X.w) X.A (pyIter (.ref s.heap.objs.size)) (PIEU ea ecl X pins σ tg R) E { s with heap := s.heap.push { cls := .type "range", data := .fields #[.int lo t, .int hi u, .int 1 v] }, toks := tk } := by
  refine wpAny_pyIter_range (IsRange.new ..) (small_one h1 h2 h3 h4) ?_
  have I1 : Inv X pins σ H { s with heap := s.heap.push { cls := .type "range", data := .fields #[.int lo t, .int hi u, .int 1 v] }, toks := tk } := I.kept fun b o e => Heap.get?_push_of_some _ e
  refine ⟨(s.heap.push { cls := .type "range", data := .fields #[.int lo t, .int hi u, .int 1 v] }).objs.size, [(s.heap.push { cls := .type "range", data := .fields #[.int lo t, .int hi u, .int 1 v] }).objs.size], _, _, H, rfl,
    I1.kept (t' := tk) fun b o e => Heap.get?_push_of_some _ e, turn_rangeU _ lo (hi - lo).toNat, ?_, fun b hb => ?_, q⟩
  · have e1 : lo + ((0 : Nat) : Int) * 1 = lo := by simp
    have e2 : (((hi - lo).toNat : Nat) : Int) - ((0 : Nat) : Int) = Builtin.Range.rangeSize lo hi 1 := by rw [rangeSize_one]; split <;> omega
    show IsRangeIter _ _ (lo + ((0 : Nat) : Int) * 1) ((((hi - lo).toNat : Nat) : Int) - ((0 : Nat) : Int)) 1
    rw [e1, e2]
    exact Heap.get?_push_size _ rfl
  · have e : b = (s.heap.push { cls := .type "range", data := .fields #[.int lo t, .int hi u, .int 1 v] }).objs.size := by simpa using hb
    subst e
    exact I1.fpOk (Nat.le_refl _) (I1.hok.fresh (Nat.le_refl _))
def iRngU (ea : Addr) (ecl : Value) (ta : TA) : TI := fun σ H R => ta σ H fun vs H1 => ∃ j : Int, vs = [.int j] ∧ -(2 ^ 62) ≤ j ∧ j < 2 ^ 62 ∧ R (ItrU ea ecl 0 j.toNat) H1
theorem pi_range1U {a : Expr} {ta : TA} {p pos : Pos} (hg : Gl X "range") (hm : X.mg "range" = none) (ha : PA X [a] ta) (hs : starEach [a] X.env = [(false, eval a X.env)] := by rfl) : PIU ea ecl X tg (.Call (.Name "range" p) [a] [] pos) (iRngU ea ecl ta) := by
  intro pins s σ H R I h
  refine Call_ (ld_blt I hg hm boot_range (PyProof.Rows.callWith_type1 (thn (ha pos pins s σ H _ I h) fun us s1 ⟨vs, H1, I1, r1, q1⟩ => ?_) hs rfl))
  obtain ⟨j, e, q1, q2, q⟩ := q1
  subst e
  cases r1 with
  | cons r rr =>
    cases rr
    obtain ⟨t, rfl⟩ := r
    exact call_range_1 (range_itU I1 (by omega) (by omega) q1 q2 (by simpa using q))
theorem comp_loopU {X : Cx} (hE : X.xe = fun _ _ => False) (hc : X.A.handled = some (.ref ea)) {e : Expr} {d : Nat} {tg iter : Expr} {ifs : List Expr} {acc : Value} {rest : Sem Unit} {g : TG} {tt : TT} {tr : TR} {J : It} {fp : List Addr} {it : Addr} {tn : Nat → Heap → Prop}
    (heq : compTurn e d (.ref it) acc X.env = (do
      standAt iter.pos
      match ← pyNext (.ref it) with
      | none => pure (.done .next)
      | some v =>
        letOwnedTupleGo tg (.ref it) v
        assign tg X.env v
        let mut ok := true
        for c in ifs do
          if ok then ok ← isTrue c X.env (eval c X.env)
        if ok then rest
        again (.compLoop e d (.ref it) acc X.env)))
    (hq : (Code.compLoop e d (.ref it) acc X.env).quiet = true) (hu : X.A.under (.compLoop e d (.ref it) acc X.env) = X.A) (hden : (model X.prog X.w).den (.compLoop e d (.ref it) acc X.env) = (compTurn e d (.ref it) acc X.env).onRaise (fun x => do noteFrame x X.env; theTreesLotGoes x))
    (hg : PG X tg g) (ht : PTs X ifs tt) (hr : PR X rest tr) (T : TurnU ea ecl X.prog X.w X.K tg J fp it tn)
    {pins : List (Addr × Obj)} {σ : St} {H : Hp} {s : Shared} {Qe : St → Hp → Prop} {R : Result → Shared → Prop} (I : Inv X pins σ H s) (st : tn 0 s.heap) (f2 : ∀ b ∈ fp, FpOk X pins H b) (h : tLoop J g tt tr Qe σ H)
    (hR : ∀ s' σ' H', Inv X pins σ' H' s' → Qe σ' H' → R (.ok .next) s') :
    codeAny (model X.prog X.w) X.A (.compLoop e d (.ref it) acc X.env) R s := by
  obtain ⟨W, ⟨m0, w0⟩, turn⟩ := h
  have stat : ∀ {H' : Hp}, (∀ b ∈ fp, H' b = none) → ∀ b ∈ fp, FpOk X pins H' b := fun hn b hb => ⟨hn b hb, (f2 b hb).2⟩
  have no : ∀ {α : Type} {t : Sem α} {Q : α → Shared → Prop} {s : Shared} {E : Value → Shared → Prop}, wpAny (model X.prog X.w) X.A t Q X.xe s → wpAny (model X.prog X.w) X.A t Q E s := fun {α t Q s E} h =>
    wpAny_mono h (fun _ _ x => x) fun _ _ x => by rw [hE] at x; exact x.elim
  refine codeAny_loop hq (fun n s' => ∃ i σ' H', Inv X pins σ' H' s' ∧ tn i s'.heap ∧ (∀ b ∈ fp, H' b = none) ∧ W i n σ' H') (fun n s3 hI => ?_) m0 ⟨0, σ, H, I, st, fun b hb => (f2 b hb).1, w0⟩
  rw [hu, hden]
  refine wpAny_noted ?_
  rw [heq]
  obtain ⟨i, σ3, H3, I3, st3, fr3, w3⟩ := hI
  refine wpAny_bind (wpAny_standAt (wpAny_bind ?_))
  rcases turn i n σ3 H3 w3 with ⟨stop, qn⟩ | ⟨go, N, hN, step⟩
  · refine no (thn (T.done X rfl rfl rfl hc i pins s3 σ3 H3 X.xe I3 (stat fr3) st3 stop) fun r s4 ⟨hr4, I4⟩ => ?_)
    subst hr4
    exact wpAny_pure (hR _ _ _ I4 qn)
  · refine no (thn (T.item X rfl rfl rfl hc i pins s3 σ3 H3 X.xe I3 (stat fr3) st3 go) fun r s4 ⟨u, hr4, h4⟩ => ?_)
    subst hr4
    refine wpAny_bind (no (thn h4 fun _ s5 ⟨x, H5, I5, r5, y5, st5, fr5⟩ => ?_))
    have I5' := I5.pinned (stat fr5) (T.obj _ _ st5)
    refine wpAny_bind (no (thn (hg _ s5 σ3 H5 x u _ I5' r5 (step x H5 y5)) fun _ s6 ⟨σ6, H6, I6, q6⟩ => ?_))
    have again : ∀ {σ7 : St} {H7 : Hp} {s7 : Shared}, Inv X (pins ++ pinsAt fp s5.heap) σ7 H7 s7 → N σ7 H7 → ∃ m, m < n ∧ ∃ i σ' H', Inv X pins σ' H' s7 ∧ tn i s7.heap ∧ (∀ b ∈ fp, H' b = none) ∧ W i m σ' H' := fun {σ7 H7 s7} I7 n7 => by
      obtain ⟨m', hm, w7⟩ := hN σ7 H7 n7
      refine ⟨m', hm, i + 1, σ7, H7, I7.unpinned, T.keep _ _ _ st5 fun b hb o e => (I7.pin (b, o) (List.mem_append_right _ (List.mem_append_right _ (mem_pinsAt hb e)))).1, fun b hb => ?_, w7⟩
      obtain ⟨o, e, dd⟩ := T.obj _ _ st5 b hb
      exact (I7.pin (b, o) (List.mem_append_right _ (List.mem_append_right _ (mem_pinsAt hb e)))).2.1
    refine wpAny_bind (no (thn (ht _ s6 σ6 H6 _ I6 q6) fun ok s7 ⟨H7, I7, q7⟩ => ?_))
    cases ok with
    | false =>
      rw [if_neg (by simp)] at q7
      exact wpAny_pure ⟨rfl, again I7 q7⟩
    | true =>
      rw [if_pos rfl] at q7
      refine wpAny_bind (no (thn (hr _ s7 σ6 H7 _ I7 q7) fun _ s8 ⟨σ8, H8, I8, q8⟩ => ?_))
      exact wpAny_pure ⟨rfl, again I8 q8⟩
variable {elt iter : Expr} {ifs : List Expr} {sc : Scope} {pos : Pos} {N' : List Str} {js : List (Option Nat)} {wi : TI} {g : TG} {tt : TT} {te : TE}
theorem comp1_blockU (hc : X.A.handled = some (.ref ea)) (B : BlkOk X sc) (C : CapsOk X sc N' js) {cl : List (Str × Addr)}
    (c1 : ∀ x c, cl.lookup x = some c → X.env.cells.lookup x = some c) (c2 : ∀ x ∈ sc.names, x.2 = .free → ∃ c, cl.lookup x.1 = some c)
    (hg : ∀ cl s H fp, PG (X.blk sc cl N' s H fp) tg g) (ht : ∀ cl s H fp, PTs (X.blk sc cl N' s H fp) ifs tt) (he : ∀ cl s H fp, PE (X.blk sc cl N' s H fp) elt te)
    {pins : List (Addr × Obj)} {σ : St} {H : Hp} {s : Shared} {Qe : Addr → Hp → Prop} {it : Addr} {fp : List Addr} {tn : Nat → Heap → Prop} {J : It} {RR : Value → Addr → Result → Shared → Prop}
    (I : Inv X pins σ H s) (T : TurnU ea ecl X.prog X.w X.K tg J fp it tn) (st : tn 0 s.heap) (hf : ∀ b ∈ fp, FpOk X pins H b)
    (h : ∀ p, H p = none → tLoop J g tt (tApp p te) (fun _ H' => Qe p H') (capSt σ js) (upd H p (.lst [])))
    (hRR : ∀ p C s' H', C ≠ p → (∀ b o, s.heap.get? b = some o → b ≠ C) → H' C = none → (∃ m, s'.heap.Ns C m) → Qe p H' → (∀ h'', Heap.SameBut C s'.heap h'' → Inv X pins σ H' { s' with heap := h'' }) → FpOk X pins H' C → RR (.ref p) C (.ok .next) s') :
    wpAny (model X.prog X.w) X.A (newList []) (fun acc s₃ => wpAny (model X.prog X.w) X.A (newFunctionEnv sc X.env.globals cl [] X.env.qual none .none (some X.env)) (fun cenv s₄ =>
      codeAny (model X.prog X.w) X.A (.compStart (.ListComp elt [⟨tg, iter, ifs, 0⟩] sc pos) 0 (.ref it) acc { cenv with scope := relabel sc X.env }) (RR acc cenv.locals) s₄) X.xe s₃) X.xe s := by
  refine wpAny_newObj_type ?_
  have I3 := I.lnew (ys := []) (its := []) (t' := s.toks) .nil (by simp)
  generalize hs3 : ({ s with heap := s.heap.push { cls := .type "list", data := .seq ([] : List Value).toArray }, toks := s.toks } : Shared) = s3 at I3
  have hp : H s.heap.objs.size = none := I.fresh
  have h3 := h _ hp
  have f3 : ∀ b ∈ fp, FpOk X pins (upd H s.heap.objs.size (.lst [])) b ∧ b < s3.heap.objs.size := fun b hb => by
    obtain ⟨f0, f1⟩ := hf b hb
    obtain ⟨o, e, _⟩ := T.obj _ _ st b hb
    have lt := Heap.lt_size e
    refine ⟨⟨by rw [upd_ne (Nat.ne_of_lt lt)]; exact f0, f1⟩, ?_⟩
    rw [← hs3]
    show b < (s.heap.push _).objs.size
    rw [Heap.size_push]
    exact Nat.lt_succ_of_lt lt
  have hsz : s3.heap.objs.size = s.heap.objs.size + 1 := by rw [← hs3]; exact Heap.size_push ..
  have hst3 : tn 0 s3.heap := by rw [← hs3]; exact T.keep _ _ _ st fun b hb o e => Heap.get?_push_of_some _ e
  refine wpAny_newFunctionEnv B.nocell (by intro y hy; simp at hy) (fun h₁ hns₁ hsb₁ => ?_) B.kind
  have J4 := blk_start (cl := cl) (N' := N') (σ' := capSt σ js) (tk := s3.toks + ([] : List (Str × Value)).length) I3 B c1 c2 f3 C.len (fun i x v e1 e2 _ => C.get e1 e2) (show h₁.Ns s3.heap.objs.size (fun _ => none) from hns₁) (show Heap.SameBut s3.heap.objs.size (s3.heap.push { cls := .type "dict", data := .dict #[] }) h₁ from hsb₁)
  have hst4 : tn 0 h₁ := T.keep _ _ _ hst3 fun b hb o e => (hsb₁.2 b (Nat.ne_of_lt (Heap.lt_size e))).trans (Heap.get?_push_of_some _ e)
  have f4 : ∀ b ∈ fp, FpOk (X.blk sc cl N' s3 (upd H s.heap.objs.size (.lst [])) fp) [] (upd H s.heap.objs.size (.lst [])) b := fun b hb => by
    obtain ⟨⟨g0, g1, g2, g3, g4, g5⟩, lt⟩ := f3 b hb
    refine ⟨g0, Nat.ne_of_lt lt, fun z => ?_, .inl hb, fun x c e => g4 x c (c1 x c e), fun p hp => absurd (show p ∈ ([] : List (Addr × Obj)) from hp) (by simp)⟩
    rcases List.mem_cons.mp (I3.stkSub b z) with z | z
    · exact g1 z
    · exact g2 z
  have loop : codeAny (model X.prog X.w) X.A (.compLoop (.ListComp elt [⟨tg, iter, ifs, 0⟩] sc pos) 0 (.ref it) (.ref s.heap.objs.size) (compEnvC sc cl s3.heap.objs.size X.env)) (RR (.ref s.heap.objs.size) s3.heap.objs.size) { s3 with heap := h₁, toks := s3.toks + ([] : List (Str × Value)).length } := by
    refine comp_loopU (X := X.blk sc cl N' s3 (upd H s.heap.objs.size (.lst [])) fp) rfl hc (compTurn_list ..) rfl rfl rfl (hg _ _ _ _) (ht _ _ _ _) (pr_app (he _ _ _ _)) T J4 hst4 f4 h3 fun s' σ' H' J' q => ?_
    have hend : ∀ h'', Heap.SameBut s3.heap.objs.size s'.heap h'' → Inv X pins σ H' { s' with heap := h'' } := fun h'' hs'' => blk_end I3 f3 J' hs''
    obtain ⟨m, hn, _⟩ := J'.loc
    refine hRR _ _ _ H' (by rw [hsz]; exact Nat.succ_ne_self _) (fun b o e => ?_) J'.free ⟨m, hn⟩ q hend (I3.fpOk (Nat.le_refl _) J'.free)
    rw [hsz]
    exact Nat.ne_of_lt (Nat.lt_succ_of_lt (Heap.lt_size e))
  exact codeAny_compStart_list loop (T.self _ 0 _ _ _ hst4 loop)
theorem pe_comp1U (hE : X.xe = fun _ _ => False) (hc : X.A.handled = some (.ref ea)) (B : BlkOk X sc) (C : CapsOk X sc N' js) (hi : PIU ea ecl X tg iter wi) (hg : ∀ cl s H fp, PG (X.blk sc cl N' s H fp) tg g) (ht : ∀ cl s H fp, PTs (X.blk sc cl N' s H fp) ifs tt) (he : ∀ cl s H fp, PE (X.blk sc cl N' s H fp) elt te)
    (hs : ∀ x, foldedSetIterable iter X.env x = pure x := by intro _; rfl) : PE X (.ListComp elt [⟨tg, iter, ifs, 0⟩] sc pos) (tComp js wi g tt te) := by
  intro pins s σ H Q I h
  obtain ⟨cl, hcl, c1, c2⟩ := closure_ok X.env sc fun x hx hfr => I.ok.has x.1 (.inl (B.free x hx hfr))
  rw [eval_ListComp]
  refine wpAny_comprehension_free (use := none) rfl hs hcl B.kind B.names (thn (hi pins s σ H _ I h) fun v s1 h1 => thn h1 fun itv s2 h2 => ?_)
  obtain ⟨it, fp, tn, J, H2, e, I2, T, st2, f2, h2⟩ := h2
  subst e
  refine comp1_blockU (Qe := fun p H' => Q (.ref p) H') (RR := fun acc C => compPost (model X.prog X.w) X.A X.xe none (EP X pins σ Q) acc C) hc B C c1 c2 hg ht he I2 T st2 f2 h2 ?_
  intro p C s' H' hne hold hfree hns q hend _
  obtain ⟨m, hn⟩ := hns
  exact ⟨m, hn, fun h'' hs'' => ⟨.ref p, H', hend h'' hs'', rfl, q⟩⟩
end
end L2
namespace L2
open PySem PySem.Spec PyProof.Rows
structure RoomU (k : Nat) (A : Around) : Prop where
  dp : A.depth + 3 * k + 5 < recursionLimit
  un : A.units + 16 * k + 200 < cLine
theorem Room.soft {k : Nat} {A : Around} (r : Room k A) : RoomU k A := ⟨r.dp, r.un⟩
theorem RoomU.deeper {k : Nat} {A : Around} (r : RoomU (k + 1) A) (env : Env) : RoomU k (A.deeper env) :=
  ⟨by have := r.dp; show A.depth + 1 + 3 * k + 5 < _; omega, by have := r.un; show A.units + 3 + 16 * k + 200 < _; omega⟩
theorem RoomU.depth {k : Nat} {A : Around} (r : RoomU k A) : A.depth < recursionLimit := by have := r.dp; omega
structure FnOkU (P : Program) (w : World) (K : PySem.W.Frag) (mg : Str → Option Value) (base : Heap) (k : Nat) (f : Addr) (fd : FuncData) (ps : List Str) (sp : Addr → Sp) : Prop where
  len : ∀ ea vs H Q E, sp ea vs H Q E → vs.length = ps.length
  run : ∀ (A : Around) (outer : List Env) (s : Shared) (H : Hp) (args : Args) (us : List Value) (vs : List V) (Q : VK) (E : XK) (ea : Addr), RoomU k A → A.handled = some (.ref ea) → Env0 P w K mg base A outer s H → BindsTo s fd args (ps.zip us) → Vals vs us → sp ea vs H Q E →
    codeAny (model P w) A (.call (.ref f) args) (CR CX0 outer P w H s Q E) s
def cxOfU (P : Program) (w : World) (K : PySem.W.Frag) (mg : Str → Option Value) (base : Heap) (N : List Str) (qual : Str) (scope : Scope) (f : Addr) (cd : Value) (A : Around) (outer : List Env) (s : Shared) (H : Hp) (E : XK) : Cx :=
  { cxOf CX0 P w K mg base N qual scope f cd A outer s H E with calm := false, xe := fun _ _ => False }
theorem inv_startU {P : Program} {w : World} {K : PySem.W.Frag} {mg : Str → Option Value} {base : Heap} {N ps : List Str} {qual : Str} {scope : Scope} {f : Addr} {cd : Value} {A : Around} {outer : List Env} {s s1 : Shared} {H : Hp} {E : XK} {us : List Value} {vs : List V}
    (S : FnScope N ps scope) (e0 : Env0 P w K mg base A outer s H) (hl : vs.length = ps.length) (r : Vals vs us)
    (x : InCallC s s.heap.objs.size (bindL (envOfC qual scope s.heap.objs.size f cd).kindOf (ps.zip us) fun _ => none) (cellsFrom (s.heap.objs.size + 1) scope.names []) (bindC (envOfC qual scope s.heap.objs.size f cd).kindOf (ps.zip us) fun _ => none) s1) :
    Inv (cxOfU P w K mg base N qual scope f cd A outer s H E) [] (start N vs) H s1 := by
  have I := inv_start (CX := CX0) (E := E) (cd := cd) (A := { A with handled := none }) S rfl ⟨e0.frames, e0.mod, e0.bs, e0.bsz, e0.funs, e0.frf, e0.hok, e0.bare⟩ hl r x
  exact ⟨⟨I.ok.mod, I.ok.kind, I.ok.glob, I.ok.blt, I.ok.above, I.ok.inj, I.ok.has, I.ok.cab, (fun z => nomatch z), Around.frames_deeper e0.frames, I.ok.stk, I.ok.exf, I.ok.bs, I.ok.bsz, I.ok.noex, I.ok.exfs, I.ok.funs, I.ok.frf⟩, I.os, I.bare, I.base, I.loc, I.cell, I.free, I.freeC, I.pin, I.hok, I.len⟩
theorem fn_ofU {P : Program} {w : World} {K : PySem.W.Frag} {mg : Str → Option Value} {base : Heap} {k : Nat} {f : Addr} {name qual : Str} {params : Arguments} {body : List Stmt} {scope : Scope} {dV kV doc pm cdv ct oc : Value} {an od : Option Addr}
    {osl : Array (Option Value)} {N ps : List Str} {sp : Addr → Sp} (lk : K.lookup f = some ⟨oc, od, .func (PySem.W.fnOf name qual params body scope dV kV doc pm an cdv ct), osl⟩) (hcd : PySem.W.codeIn K cdv qual = true) (S : FnScope N ps scope)
    (len : ∀ ea vs H Q E, sp ea vs H Q E → vs.length = ps.length)
    (hbody : ∀ (A : Around) (outer : List Env) (s : Shared) (H : Hp) (vs : List V) (Q : VK) (E : XK) (ea : Addr), RoomU k (A.deeper (envOfC qual scope s.heap.objs.size f cdv)) → A.handled = some (.ref ea) → sp ea vs H Q E →
      ∃ t, PSs (cxOfU P w K mg base N qual scope f cdv A outer s H E) body t ∧ t { nx := fun _ H' => Q .non H', rt := Q } (start N vs) H) :
    FnOkU P w K mg base (k + 1) f (PySem.W.fnOf name qual params body scope dV kV doc pm an cdv ct) ps sp := by
  refine ⟨len, fun A outer s H args us vs Q E ea hr hh e0 hb r hsp => ?_⟩
  have hl := len _ _ _ _ _ hsp
  have KX : K.In s.heap := e0.mod.kin.keeps fun b o e => (e0.bs b o e).1
  have lim : s.heap.NoLimit := e0.mod.nolimit.keeps fun b o e => (e0.bs b o e).1
  have hkind : ∀ y ∈ ps.zip us, scope.names.lookup y.1 = some .local ∨ (scope.names.lookup y.1 = some .cell ∧ ((cellsFrom (s.heap.objs.size + 1) scope.names []).lookup y.1).isSome = true) := fun ⟨n, v⟩ hy => by
    rcases S.par n (List.of_mem_zip hy).1 with q | q
    · exact .inl q
    · exact .inr ⟨q, PySem.W.cellsFrom_some _ _ _ (.inl q)⟩
  refine codeAny_call_function hr.depth (KX _ _ lk) rfl S.co S.gen rfl (PySem.W.codeRec_of KX hcd) (hb _ _ _ _ ?_)
  refine wpAny_newFunctionEnv_cells S.kind hkind fun env he s1 x => ?_
  subst he
  refine ⟨lim.keeps x.toInCall.keep, codeAny_func ?_⟩
  obtain ⟨t, ht, hq⟩ := hbody A outer s H vs Q E ea (hr.deeper _) hh hsp
  have I : Inv (cxOfU P w K mg base N qual scope f cdv A outer s H E) [] (start N vs) H s1 := inv_startU S e0 hl r x
  refine wpAny_mono (ht [] s1 (start N vs) H _ I hq) (fun fl s' hs => ?_) fun e s' hs => hs.elim
  have fin : ∀ {σ' : St} {H' : Hp} {v : V} {u : Value}, Inv (cxOfU P w K mg base N qual scope f cdv A outer s H E) [] σ' H' s' → RelV v u → Q v H' → CE outer P w H s Q u s' :=
    fun {σ' H' v u} J rv q => ⟨v, H', J.os, J.bare, J.base, J.hok, rv, q⟩
  cases fl with
  | ret u =>
    obtain ⟨v, σ', H', J, rv, q⟩ := hs
    exact fin J rv q
  | next =>
    obtain ⟨σ', H', J, q⟩ := hs
    exact fin (v := V.non) (u := Value.none) J rfl q
  | brk =>
    obtain ⟨_, _, _, q⟩ := hs
    exact False.elim q
  | cont =>
    obtain ⟨_, _, _, q⟩ := hs
    exact False.elim q
section
variable {X : Cx} {k : Nat} {f : Addr} {fd : FuncData} {ps : List Str} {sp : Addr → Sp} {ds : List Value} {dvs : List V} {ea : Addr} {x : Str} {p pos : Pos} {e : Expr} {es : List Expr} {t : TA}
theorem pe_callU (F : FnOkU X.prog X.w X.K X.mg X.base k f fd ps sp) (hr : RoomU k X.A) (hh : X.A.handled = some (.ref ea)) (hg : Gl X x) (hm : X.mg x = some (.ref f)) (hk : PySem.W.keepIn X.K (.ref f) = true) (hb : Binds X.K fd ps ds) (hd : Vals dvs ds)
    (ha : PA X (e :: es) t) (hdb : (x == ("__debug__" : Str)) = false := by decide) (he : starEach (e :: es) X.env = (false, eval e X.env) :: starEach es X.env := by rfl) (hpl : (backTo pos (starEach es X.env)).any (·.1) = false := by rfl) :
    PE X (.Call (.Name x p) (e :: es) [] pos) (fun σ H Q => t σ H fun vs H1 => sp ea (vs ++ dvs) H1 Q E0) := by
  intro pins s σ H Q I h
  refine wpAny_Call_Name_kw (ld_glob I hg hm ?_ hdb)
  refine PySem.W.callWith_K (h₀ := X.base) I.ok.mod.kin hk (thn (ha pos pins s σ H _ I h) fun us s1 q => ?_) he hpl
  obtain ⟨vs, H1, I1, r, q⟩ := q
  refine ⟨I1.kIn, ?_⟩
  have r2 : Vals (vs ++ dvs) (us ++ ds) := r.append hd
  have hl : (us ++ ds).length = ps.length := by rw [← r2.length]; exact F.len _ _ _ _ _ q
  refine wpAny_call (codeAny_mono (F.run X.A X.stack s1 H1 ⟨us, []⟩ (us ++ ds) (vs ++ dvs) Q E0 ea hr hh I1.env0 (hb s1 us I1.kIn hl) r2 q) fun r s' hq => ?_)
  cases r with
  | error e => exact hq.elim
  | ok fl =>
    cases fl with
    | ret u => exact I1.after hq
    | next => exact False.elim hq
    | brk => exact False.elim hq
    | cont => exact False.elim hq
end
section
variable {P : Program} {w : World} {K : PySem.W.Frag} {mg : Str → Option Value} {base : Heap}
theorem Fun.okU {x qual : Str} {st : Stmt} {f : Addr} {fd : FuncData} {N ps : List Str} {k : Nat} {sp : Addr → Sp} (F : Fun K x qual st f fd) (S : FnScope N ps (defScope st)) (len : ∀ ea vs H Q E, sp ea vs H Q E → vs.length = ps.length)
    (hbody : ∀ (cdv : Value) (A : Around) (outer : List Env) (s : Shared) (H : Hp) (vs : List V) (Q : VK) (E : XK) (ea : Addr), RoomU k (A.deeper (envOfC qual (defScope st) s.heap.objs.size f cdv)) → A.handled = some (.ref ea) → sp ea vs H Q E →
      ∃ t, PSs (cxOfU P w K mg base N qual (defScope st) f cdv A outer s H E) (defBody st) t ∧ t { nx := fun _ H' => Q .non H', rt := Q } (start N vs) H) : FnOkU P w K mg base (k + 1) f fd ps sp := by
  obtain ⟨oc, od, kV, doc, pm, an, cdv, ct, osl, rfl, lk, hcd⟩ := F.ex
  refine fn_ofU lk hcd S len fun A outer s H vs Q E ea hr hh hsp => ?_
  exact hbody cdv A outer s H vs Q E ea hr hh hsp
end
end L2
namespace L2
open PySem PySem.Spec PyProof.Rows
open PySem.W (findIn findObj mroIn InstAt looks_findIn looks_find looks_mroIn class_get)
section
variable {prog : Program} {w : World} {A : Around} {E : Value → Shared → Prop} {s : Shared} {K : PySem.W.Frag} {a C : Addr} {ox : Obj} {odo : Option Obj}
theorem exc_chk {nm : Value} {Q : Unit → Shared → Prop} (X : K.In s.heap) (I : InstAt s.heap a ox C odo) (hb : mroIn K C (.type "BaseException") = some true) (h : Q () s) :
    wpAny (model prog w) A (checkBuiltinCall "BaseException.__getattribute__" ⟨[.ref a, nm], []⟩) Q E s := by
  obtain ⟨hh, g, d, t, os⟩ := s
  have LI : PySem.W.Looks (model prog w) hh (isInstance (.ref a) (.type "BaseException")) true := (I.type (M := model prog w)).andThen (looks_mroIn (M := model prog w) X hb)
  have hkd : builtinKind "BaseException.__getattribute__" = some .slot := by decide +kernel
  have hsp : splitId "BaseException.__getattribute__" = some ("BaseException", "__getattribute__") := by decide +kernel
  have har := F.args_bexc_ga (.ref a) nm
  simp only [checkBuiltinCall, hkd, hsp]
  refine wpAny_bind (LI.at ?_)
  repeat (first | wp_step)
  exact h
theorem exc_class {Q : Option Value → Shared → Prop} (X : K.In s.heap) (I : InstAt s.heap a ox C odo) (hga : findIn K (.ref C) "__getattribute__" = some (some (.builtin "BaseException.__getattribute__"))) (hk : findIn K (.ref C) "__getattr__" = some none)
    (hf : findObj K C odo "__class__" = some (.bind (.builtin "getset_descriptor.__get__") (.builtin "object.__class__"))) (hb : mroIn K C (.type "BaseException") = some true) (hm : mroIn K C (.type "object") = some true)
    (h : Q (some (.ref C)) { s with toks := s.toks + 1 }) : wpAny (model prog w) A (getAttr? (.ref a) "__class__") Q E s := by
  obtain ⟨hh, g, d, t, os⟩ := s
  have L0 := I.type (M := model prog w)
  have L1 := looks_findIn (M := model prog w) X hga
  have L2 := looks_find (M := model prog w) X I hf
  have L3 := looks_findIn (M := model prog w) X hk
  have L4 := looks_mroIn (M := model prog w) X hb
  unfold getAttr? getAttrBy? getAttrBy
  refine wpAny_bind (wpAny_mkText (wpAny_bind (wpAny_attempt (wpAny_holding (wpAny_bind (L0.at (wpAny_bind (L1.at ?_))))))))
  dsimp only
  rw [if_neg (by rw [show (Value.builtin "BaseException.__getattribute__" == Value.builtin "object.__getattribute__") = false from by decide +kernel]; simp)]
  unfold getAttrByItsOwn hookBefore
  rw [if_pos (show onTheHeap (Value.ref C) = true from rfl)]
  refine wpAny_bind (L3.at (wpAny_bind (wpAny_attempt (wpAny_holding ?_))))
  unfold callGetattribute
  rw [if_neg (by simp)]
  unfold boundAndCalled
  have fb := F.attrBase_ValueError.ga.bind (.ref a)
  rw [fb]
  refine wpAny_bind (wpAny_pure ?_)
  show wpAny _ _ (call (.builtin "BaseException.__getattribute__") [.ref a, .str "__class__" t]) _ _ _
  refine wpAny_call (codeAny_call_builtin F.attrBase_ValueError.ga.plain F.entry_bexc_ga (exc_chk (s := { heap := hh, gens := g, drawn := d, toks := t + 1, os := os }) X I hb ?_))
  unfold Builtin.«object.__getattribute__»
  refine wpAny_bind (wpAny_pure (wpAny_bind (wpAny_pure (wpAny_bind (L0.at (wpAny_bind (L2.at ?_)))))))
  show wpAny _ _ (holding [Value.builtin "object.__class__"] (call (.builtin "getset_descriptor.__get__") [.builtin "object.__class__", .ref a, .ref C]) >>= ret) _ _ _
  refine wpAny_bind (wpAny_holding (wpAny_call (class_get (s := { heap := hh, gens := g, drawn := d, toks := t + 1, os := os }) (ox := ox) (od := odo) X I hm ?_)))
  unfold ret
  refine wpAny_pure ?_
  exact PySem.W.handed_on rfl (wpAny_pure h)
end
end L2
namespace L2
open PySem PySem.Spec PyProof.Rows
open PySem.W (findIn findObj mroIn InstAt clsIn specialIn takesIn KitX)
structure ExCls (K : PySem.W.Frag) (C : Addr) : Prop where
  cls : (clsIn K C).isSome = true
  ga : findIn K (.ref C) "__getattribute__" = some (some (.builtin "BaseException.__getattribute__"))
  gx : findIn K (.ref C) "__getattr__" = some none
  at_ : findIn K (.ref C) "__class__" = some (some (.builtin "object.__class__"))
  get : specialIn K (.builtin "object.__class__") "__get__" = some (some (.builtin "getset_descriptor.__get__"))
  tk : takesIn K (.builtin "object.__class__") = some true
  bex : mroIn K C (.type "BaseException") = some true
  obj : mroIn K C (.type "object") = some true
theorem ExCls.is {K : PySem.W.Frag} {C : Addr} {h : Heap} (x : ExCls K C) (X : K.In h) : ∃ o cd, h.get? C = some o ∧ o.data = .cls cd := by
  have e := x.cls
  unfold clsIn at e
  split at e
  · next c d cd sl ho => exact ⟨_, cd, X _ _ ho, rfl⟩
  · cases e
theorem ExCls.find {K : PySem.W.Frag} {C : Addr} (x : ExCls K C) : findObj K C none "__class__" = some (.bind (.builtin "getset_descriptor.__get__") (.builtin "object.__class__")) := by
  obtain ⟨cd, hc⟩ := Option.isSome_iff_exists.mp x.cls
  unfold findObj
  simp [hc, x.at_, x.get, x.tk]
theorem kitx_exc {K : PySem.W.Frag} {a C : Addr} (x : ExCls K C) : KitX K (.ref a) (.ref C) (fun h => ∃ ox, InstAt h a ox C none) where
  ty := fun M h X I => by
    obtain ⟨ox, I⟩ := I
    exact I.type
  it := fun M h X I => by
    obtain ⟨o, cd, e, d⟩ := x.is X
    obtain ⟨oc, od, oda, osl⟩ := o
    dsimp only at d
    subst d
    intro A Q E s k q
    unfold isType loadHead
    exact wpAny_bind (wpAny_loadPart (k _ _ e) (wpAny_pure q))
  ne := fun h tp dd its n sl X htp => by
    obtain ⟨o, cd, e, d⟩ := x.is X
    refine Bool.eq_false_iff.mpr fun q => ?_
    have z : C = tp := Value.ref.inj (beq_iff_eq.mp q)
    subst z
    rw [e] at htp
    cases htp
    cases d
  ca := fun X I k => by
    obtain ⟨ox, I⟩ := I
    exact exc_class X I x.ga x.gx x.find x.bex x.obj k
theorem exH_inst {P : Program} {w : World} {H : Hp} {h : Heap} {a C : Addr} (x : ObjOk P w H h a (exH a (.ref C))) : ∃ ox, InstAt h a ox C none := by
  obtain ⟨⟨o, vs, e, c, d, _, dn⟩, _⟩ := x
  obtain ⟨oc, od, oda, osl⟩ := o
  dsimp only at c d dn
  subst c d dn
  exact ⟨_, e, rfl, rfl, trivial⟩
def rIsX (K : PySem.W.Frag) : List V → Hp → VK → Prop := fun xs H Q => ∃ ea C d b, ∃ c : Value, xs = [.ref ea, d] ∧ RelV d c ∧ (∀ c', RelV d c' → c' = c) ∧ H ea = some (exH ea (.ref C)) ∧ ExCls K C ∧ PySem.W.kitOne K (.ref C) c = some b ∧ Q (.bl b) H
theorem call_isX {X : Cx} : CallR X (.builtin "isinstance") (rIsX X.K) := by
  intro pins s σ H xs us Q I r h
  obtain ⟨ea, C, d, b, c, rfl, rd, un, hea, ex, e, q⟩ := h
  obtain ⟨u, u2, rfl, ru, rt⟩ := vals2 r
  cases (show u = Value.ref ea from ru)
  rw [un u2 rt]
  exact PySem.W.kia_one (kitx_exc ex) I.kIn (exH_inst (I.hok ea _ hea)) e (fun z => nomatch z) fun tk => ⟨.bl b, H, I.tok tk, rfl, q⟩
end L2
namespace L2
open PySem PySem.Spec PyProof.Rows
section
variable {X : Cx} {e : Expr} {tx : TEX} {pos : Pos}
end
section
variable {X : Cx} {elt tg iter : Expr} {ifs : List Expr} {sc : Scope} {pos : Pos} {ti : TE}
end
structure ErrC (K : PySem.W.Frag) (cN : Addr) (cs : List Addr) (C : Addr) (bs : List Bool) : Prop where
  ex : PySem.W.excIn K C bmVE "ValueError.__new__" = true
  xc : ExCls K C
  m : PySem.W.exmOne K (.ref C) (.ref cN) = some true
  ks : cs.map (fun c => PySem.W.kitOne K (.ref C) (.ref c)) = bs.map some
  kv : PySem.W.kitOne K (.ref C) (.type "ValueError") = some true
def errB (K : PySem.W.Frag) (cN : Addr) (cs : List Addr) (C : Addr) (bs : List Bool) : Bool :=
  PySem.W.excIn K C bmVE "ValueError.__new__" && (PySem.W.clsIn K C).isSome && PySem.W.findIn K (.ref C) "__getattribute__" == some (some (.builtin "BaseException.__getattribute__")) && PySem.W.findIn K (.ref C) "__getattr__" == some none &&
  PySem.W.findIn K (.ref C) "__class__" == some (some (.builtin "object.__class__")) && PySem.W.specialIn K (.builtin "object.__class__") "__get__" == some (some (.builtin "getset_descriptor.__get__")) && PySem.W.takesIn K (.builtin "object.__class__") == some true &&
  PySem.W.mroIn K C (.type "BaseException") == some true && PySem.W.mroIn K C (.type "object") == some true && PySem.W.exmOne K (.ref C) (.ref cN) == some true && cs.map (fun c => PySem.W.kitOne K (.ref C) (.ref c)) == bs.map some && PySem.W.kitOne K (.ref C) (.type "ValueError") == some true
theorem errC_of {K : PySem.W.Frag} {cN : Addr} {cs : List Addr} {C : Addr} {bs : List Bool} (h : errB K cN cs C bs = true) : ErrC K cN cs C bs := by
  unfold errB at h
  simp only [Bool.and_eq_true, beq_iff_eq] at h
  obtain ⟨⟨⟨⟨⟨⟨⟨⟨⟨⟨⟨h1, h2⟩, h3⟩, h4⟩, h5⟩, h6⟩, h7⟩, h8⟩, h9⟩, h10⟩, h11⟩, h12⟩ := h
  exact ⟨h1, ⟨h2, h3, h4, h5, h6, h7, h8, h9⟩, h10, h11, h12⟩
end L2
namespace L2
open PySem PySem.Spec PyProof.Rows
section
variable {M : Model} {A : Around} {E : Value → Shared → Prop} {s : Shared} {env : Env} {L e : Addr} {cls a0 : Value}
theorem note_same {T : Addr} {Q : Unit → Shared → Prop} (hf : env.frame = some L) (x : Exc e T cls a0 (rawInt L) s.heap) (h : Q () s) : wpAny M A (noteFrame (.ref e) env) Q E s := by
  obtain ⟨oe, vs, oT, ts, he, rfl, hd, h0, n1, ne, hT, dT, h3, n2, dn⟩ := x
  unfold noteFrame
  simp only [hf]
  refine wpAny_bind (wpAny_field he hd n1 ?_)
  rw [if_pos (by simp)]
  refine wpAny_bind (wpAny_field hT dT h3 ?_)
  rw [if_pos (by simp [rawInt])]
  exact wpAny_pure h
theorem flightL {T : Addr} {fl : Value} {Q : Unit → Shared → Prop} (x : Exc e T cls a0 fl s.heap)
    (h : ∀ h', Lft [] [T] s.heap h' → Exc e T cls a0 (rawInt L) h' → Q () { s with heap := h' }) : wpAny M A (setFlight (.ref e) (some L)) Q E s := by
  obtain ⟨oe, vs, oT, ts, he, hc, hd, h0, n1, ne, hT, dT, h3, n2, dn⟩ := x
  have hs3 : 3 < ts.size := (Array.getElem?_eq_some_iff.mp h3).1
  unfold setFlight
  refine wpAny_bind (wpAny_field he hd n1 ?_)
  rw [if_pos (by simp)]
  refine wpAny_setField hT dT hs3 (h _ (Lft.fld hT dT _) ?_)
  refine ⟨oe, vs, _, _, ?_, hc, hd, h0, n1, ne, fld_self hT dT _, Obj.data_mapFields dT _, by simp [hs3], n2, dn⟩
  rw [Heap.get?_update_other _ _ ne]; exact he
end
section
variable {P : Program} {w : World} {K : PySem.W.Frag} {mg : Str → Option Value} {base : Heap} {N : List Str} {qual : Str} {scope : Scope} {f : Addr} {cd : Value} {A : Around} {outer : List Env} {s : Shared} {H : Hp} {E : XK}
inductive InFl (P : Program) (w : World) (K : PySem.W.Frag) (mg : Str → Option Value) (base : Heap) (N : List Str) (qual : Str) (scope : Scope) (f : Addr) (cd : Value) (A : Around) (outer : List Env) (s : Shared) (H : Hp) (E : XK) : Value → Shared → Prop where
  | new {pins : List (Addr × Obj)} {σ : St} {H1 : Hp} {s1 : Shared} {h' : Heap} {a : Addr} {cls : Value} {vs : List Value} (I : Inv (cxOf (CXE P w) P w K mg base N qual scope f cd A outer s H E) pins σ H1 s1) (m : Heap.MadeExcOf s1.heap h' a cls vs) (e : E cls none H1) :
      InFl P w K mg base N qual scope f cd A outer s H E (.ref a) { s1 with heap := h' }
  | fly {s' : Shared} {a T : Addr} {cls : Value} {t : Addr} {H1 : Hp} (os : s'.os = s.os) (bare : AllBare s'.gens) (un : Un (frs outer) [] H H1 s.heap s'.heap) (hok : HOk P w H1 s'.heap) (ea : s.heap.get? a = none) (eT : s.heap.get? T = none) (na : H1 a = none) (nT : H1 T = none)
      (x : Exc a T cls (.ref t) (rawInt s.heap.objs.size) s'.heap) (e : E cls none H1) : InFl P w K mg base N qual scope f cd A outer s H E (.ref a) s'
theorem InFl.out {ev : Value} {s' : Shared} (h : InFl P w K mg base N qual scope f cd A outer s H E ev s') : (cxOf (CXE P w) P w K mg base N qual scope f cd A outer s H E).xe ev s' := by
  cases h with
  | new I m e => exact rz_fn _ _ _ _ _ _ _ _ I m e
  | @fly s' a T cls t H1 os bare un hok ea eT na nT x e =>
    show wpAny _ (A.deeper _) (leaving _ (.ref a)) _ _ _
    unfold leaving
    refine wpAny_bind (note_same (L := s.heap.objs.size) rfl x ?_)
    refine flight x fun h3 l3 x3 => ?_
    have u3 := un.lft l3 (fun b z => by rw [List.mem_singleton.mp z]; exact eT) fun b z => absurd z (by simp)
    have k3 : HOk P w H1 h3 := hok.lft l3 (fun b z => absurd z (by simp)) fun b z => by rw [List.mem_singleton.mp z]; exact nT
    exact ⟨a, T, cls, t, H1, rfl, os, bare, u3, k3, ea, eT, na, nT, x3, e⟩
theorem InFl.own : PassesOwn (model P w) (A.deeper (envOfC qual scope s.heap.objs.size f cd)) (envOfC qual scope s.heap.objs.size f cd) (InFl P w K mg base N qual scope f cd A outer s H E) := by
  intro ev s' h
  have back : ∀ {s' : Shared} {a T : Addr} {cls : Value} {t : Addr} {H1 : Hp}, s'.os = s.os → AllBare s'.gens → Un (frs outer) [] H H1 s.heap s'.heap → HOk P w H1 s'.heap → s.heap.get? a = none → s.heap.get? T = none → H1 a = none → H1 T = none → Exc a T cls (.ref t) (rawInt s.heap.objs.size) s'.heap → E cls none H1 →
      cameBackBy (model P w) (A.deeper (envOfC qual scope s.heap.objs.size f cd)) (envOfC qual scope s.heap.objs.size f cd) (InFl P w K mg base N qual scope f cd A outer s H E) (.ref a) s' := by
    intro s' a T cls t H1 os bare un hok ea eT na nT x e
    obtain ⟨oe, vs, oT, ts, he, hc, hd, h0, n1, ne, _⟩ := id x
    unfold cameBackBy
    refine wpAny_bind (wpAny_field he hd n1 ?_)
    rw [if_neg (by simp)]
    refine flightL (L := s.heap.objs.size) x fun h3 l3 x3 => ?_
    have u3 := un.lft l3 (fun b z => by rw [List.mem_singleton.mp z]; exact eT) fun b z => absurd z (by simp)
    have k3 : HOk P w H1 h3 := hok.lft l3 (fun b z => absurd z (by simp)) fun b z => by rw [List.mem_singleton.mp z]; exact nT
    exact .fly (s' := { s' with heap := h3 }) os bare u3 k3 ea eT na nT x3 e
  cases h with
  | @new pins σ H1 s1 h' a cls vs I M hE =>
    obtain ⟨t, he, htn, ht⟩ := M.there
    have fr : (A.deeper (envOfC qual scope s.heap.objs.size f cd)).frames = some (envOfC qual scope s.heap.objs.size f cd :: outer) := I.ok.frames
    have fz := I.stkFree
    have ub : Un (frs outer) [] H H1 s.heap s1.heap := I.base
    have na := I.hok.no M.new
    have nT : ∀ T, h'.get? T = none → s1.heap.get? T = none := fun T q => by
      cases z : s1.heap.get? T with
      | none => rfl
      | some o => rw [M.keeps T o z] at q; cases q
    have hl : h'.FunFrames base (envOfC qual scope s.heap.objs.size f cd :: outer) := I.stack.of_keeps fun b o q _ => ⟨o, M.keeps b o q, rfl⟩
    unfold notedBy
    refine note_new (s := { s1 with heap := h' }) fr hl rfl he rfl rfl rfl rfl rfl fun h2 T l2 kT x2 => ?_
    have eT : s1.heap.get? T = none := nT T (Heap.get?_none_of_le kT)
    have u1 : Un (frs outer) [] H H1 s.heap h' := ub.trans (Un.kept M.keeps)
    have u2 := u1.lft l2 (fun b z => by rw [List.mem_singleton.mp z]; exact ub.no M.new) fun b z => loc_new I z
    have k1 : HOk P w H1 h' := I.hok.kept M.keeps
    have k2 : HOk P w H1 h2 := k1.lft l2 (fun b z => fz b z) fun b z => by rw [List.mem_singleton.mp z]; exact na
    exact back (s' := { s1 with heap := h2 }) I.os I.bare u2 k2 (ub.no M.new) (ub.no eT) na (I.hok.no eT) x2 hE
  | @fly s' a T cls t H1 os bare un hok ea eT na nT x e =>
    unfold notedBy
    exact note_same (L := s.heap.objs.size) rfl x (back os bare un hok ea eT na nT x e)
theorem rz_fly : Rz ((cxOf (CXE P w) P w K mg base N qual scope f cd A outer s H E).wish (InFl P w K mg base N qual scope f cd A outer s H E)) E := fun pins σ H1 s1 h' a cls vs I M hE => .new I.unwish M hE
theorem ps_forX {tg iter : Expr} {body : List Stmt} {wi : TI} {g : TG} {tb : TS} {pos : Pos} (hi : PI ((cxOf (CXE P w) P w K mg base N qual scope f cd A outer s H E).wish (InFl P w K mg base N qual scope f cd A outer s H E)) tg iter wi) (hg : PG ((cxOf (CXE P w) P w K mg base N qual scope f cd A outer s H E).wish (InFl P w K mg base N qual scope f cd A outer s H E)) tg g) (hb : PSs ((cxOf (CXE P w) P w K mg base N qual scope f cd A outer s H E).wish (InFl P w K mg base N qual scope f cd A outer s H E)) body tb)
    (hs : ∀ x, foldedSetIterable iter (cxOf (CXE P w) P w K mg base N qual scope f cd A outer s H E).env x = pure x := by intro _; rfl) : PS (cxOf (CXE P w) P w K mg base N qual scope f cd A outer s H E) (.For tg iter body [] pos) (tFor wi g tb) := by
  intro pins s1 σ H1 D I h
  refine wpAny_mono (ps_for (X := (cxOf (CXE P w) P w K mg base N qual scope f cd A outer s H E).wish (InFl P w K mg base N qual scope f cd A outer s H E)) InFl.own rfl hi hg hb hs pins s1 σ H1 D (I.wish _) h) (fun fl s2 q => ?_) fun ev s2 q => q.out
  cases fl with
  | next => obtain ⟨σ', H', I', q⟩ := q; exact ⟨σ', H', I'.unwish, q⟩
  | brk => obtain ⟨σ', H', I', q⟩ := q; exact ⟨σ', H', I'.unwish, q⟩
  | cont => obtain ⟨σ', H', I', q⟩ := q; exact ⟨σ', H', I'.unwish, q⟩
  | ret u => obtain ⟨v, σ', H', I', r, q⟩ := q; exact ⟨v, σ', H', I'.unwish, r, q⟩
end
end L2
namespace PySem
namespace F
theorem owner_rev : Manifest.owners.lookup (String.ofList ['d', 'e', 's', 'r', 'e', 'v', 'e', 'r'].reverse) = some Manifest.sig_reversed := by kernel_rfl
theorem slot_rev_next : Slot "reversed" "__next__" "reversed.__next__" :=
  .of (owner := "reversed") (n := "__next__") (by rw [typeLookup_type, builtinLookup_eq_fast]; kernel_rfl) (by decide +kernel) (by decide +kernel) (by decide +kernel)
    (by first | exact .inl (by decide +kernel) | exact .inr (by decide +kernel)) (by rw [isSubtype_type]; kernel_rfl)
theorem entry_rev_next : entryFor table "reversed.__next__" = some Builtin.«reversed.__next__» := entryFor_of_tree (by kernel_rfl)
theorem args_rev_next_1 (a : Value) : argsOk "reversed.__next__" ⟨[a], []⟩ := by
  unfold argsOk; rw [signature?_of (id := "reversed.__next__") (n := ['_', '_', 't', 'x', 'e', 'n', '_', '_']) (o := ['d', 'e', 's', 'r', 'e', 'v', 'e', 'r']) (by kernel_rfl) owner_rev]; kernel_rfl
theorem slot_rev_iter : Slot "reversed" "__iter__" "reversed.__iter__" :=
  .of (owner := "reversed") (n := "__iter__") (by rw [typeLookup_type, builtinLookup_eq_fast]; kernel_rfl) (by decide +kernel) (by decide +kernel) (by decide +kernel)
    (by first | exact .inl (by decide +kernel) | exact .inr (by decide +kernel)) (by rw [isSubtype_type]; kernel_rfl)
theorem args_rev_iter_1 (a : Value) : argsOk "reversed.__iter__" ⟨[a], []⟩ := by
  unfold argsOk; rw [signature?_of (id := "reversed.__iter__") (n := ['_', '_', 'r', 'e', 't', 'i', '_', '_']) (o := ['d', 'e', 's', 'r', 'e', 'v', 'e', 'r']) (by kernel_rfl) owner_rev]; kernel_rfl
theorem entry_rev_iter : entryFor table "reversed.__iter__" = some Builtin.«dict_keyiterator.__iter__» :=
  entryFor_alias (id' := "dict_keyiterator.__iter__") (by kernel_rfl) (by first | rfl | decide +kernel | (unfold String.splitOn; simp +decide [String.splitOnAux])) (by decide +kernel) (by kernel_rfl)
theorem slot_rev_init : Slot "reversed" "__init__" "object.__init__" :=
  .of (owner := "object") (n := "__init__") (by rw [typeLookup_type, builtinLookup_eq_fast]; kernel_rfl) (by decide +kernel) (by decide +kernel) (by decide +kernel)
    (by first | exact .inl (by decide +kernel) | exact .inr (by decide +kernel)) (by rw [isSubtype_type]; kernel_rfl)
theorem called_rev : TypeCalled "reversed" "reversed.__new__" "object.__init__" :=
  ⟨by decide +kernel, by decide +kernel, ⟨_, _, mro_reversed⟩, madeBy_type mro_reversed lookup_reversed_new (by decide +kernel), by decide +kernel, by rw [isSubtype_type]; kernel_rfl, slot_rev_init⟩
theorem str_no_rev : typeLookup (.type "str") "__reversed__" = pure none := by rw [typeLookup_type, builtinLookup_eq_fast]; kernel_rfl
end F
end PySem
namespace PySem
section
variable {prog : Program} {w : World} {A : Around} {E : Value → Shared → Prop} {s : Shared}
def revSObj (x : Str) (t : Tok) (i : Int) : Obj := { cls := .type "reversed", data := .fields #[.str x t, rawInt i] }
def Heap.IsRevS (h : Heap) (a : Addr) (x : Str) (t : Tok) (i : Int) : Prop := ∃ o, h.get? a = some o ∧ o.cls = .type "reversed" ∧ o.data = .fields #[.str x t, rawInt i]
theorem Heap.IsRevS.typeIs {a : Addr} {x : Str} {t : Tok} {i : Int} (q : s.heap.IsRevS a x t i) : s.TypeIs (.ref a) "reversed" := let ⟨o, ho, hc, _⟩ := q; ⟨o, ho, hc⟩
theorem code_reversed_str {x : Str} {t : Tok} {Q₁ : Value → Shared → Prop} (hx : x.length ≤ sizeLine)
    (h : ∀ tk, Q₁ (.ref s.heap.objs.size) { s with heap := s.heap.push (revSObj x t ((x.length : Int) - 1)), toks := tk }) :
    codeAny (model prog w) A (.call (.builtin "reversed.__new__") ⟨[.type "reversed", .str x t], []⟩) (wants Q₁ E) s := by
  have hn := L2.line63
  refine codeAny_of_tree ?_
  show wpAny _ A.in1 (do checkBuiltinCall "reversed.__new__" ⟨[.type "reversed", .str x t], []⟩; again (.builtin "reversed.__new__" ⟨[.type "reversed", .str x t], []⟩)) _ _ s
  refine wpAny_bind (wpAny_of_eq (F.newCall_reversed_1 _) (wpAny_pure ⟨plainId_quiet F.plain_reversed_new _, codeAny_builtin F.entry_reversed_new ?_⟩))
  rw [Around.under_plainId F.plain_reversed_new _]
  unfold Builtin.«reversed.__new__»
  refine wpAny_bind (wpAny_of_eq (newClass_reversed _) ?_)
  try dsimp only
  refine wpAny_bind (wpAny_of_eq (a := ()) (by first | rfl | kernel_rfl) ?_)
  refine wpAny_bind (wpAny_of_eq (a := ()) (by first | rfl | kernel_rfl) ?_)
  try dsimp only
  refine wpAny_bind (wpAny_specialOf (typeIs_str s x t) F.str_no_rev ?_)
  try dsimp only
  refine wpAny_bind (wpAny_of_eq (a := true) (by kernel_rfl) ?_)
  rw [if_neg (by decide)]
  refine wpAny_bind (PyProof.Rows.len_str (by omega) ?_)
  refine wpAny_bind (wpAny_of_eq (a := some (x.length : Int)) (by first | rfl | kernel_rfl) ?_)
  dsimp only
  refine wpAny_bind ?_
  show wpAny _ _ (newObj (.type "reversed") (.fields #[.str x t, rawInt ((x.length : Int) - 1)])) _ _ _
  refine wpAny_newObj_type (wpAny_pure (h _)) (by size_fits)
theorem call_reversed_str {x : Str} {t : Tok} {Q : Value → Shared → Prop} (hx : x.length ≤ sizeLine)
    (h : ∀ tk, Q (.ref s.heap.objs.size) { s with heap := s.heap.push (revSObj x t ((x.length : Int) - 1)), toks := tk }) : wpAny (model prog w) A (call (.type "reversed") [.str x t]) Q E s := by
  refine callType_codes (Q₁ := fun obj s₁ => ∃ tk, obj = .ref s.heap.objs.size ∧ s₁ = { s with heap := s.heap.push (revSObj x t ((x.length : Int) - 1)), toks := tk }) F.called_rev (F.typeCall_reversed_1 _) F.entry_object_init (code_reversed_str hx fun tk => ⟨tk, rfl, rfl⟩) ?_
  rintro obj s₁ ⟨tk, rfl, rfl⟩
  have hT : Shared.TypeIs { s with heap := s.heap.push (revSObj x t ((x.length : Int) - 1)), toks := tk } (.ref s.heap.objs.size) "reversed" := ⟨_, Heap.get?_push_size _ rfl, rfl⟩
  exact ⟨hT, F.args_object_init_2 _ _, object_init_meets F.called_rev.init.lookup F.called_rev.made (by decide) prog w A.in1 _ _ ⟨hT, rfl, h tk⟩⟩
theorem wpAny_pyNext_revS_item {it : Addr} {x : Str} {t : Tok} {i c : Nat} {Q : Option Value → Shared → Prop} (hit : s.heap.IsRevS it x t (i : Int)) (hx : x.length ≤ sizeLine) (hc : x.cps[i]? = some c)
    (hQ : ∀ h' tk, h'.IsRevS it x t ((i : Int) - 1) → Heap.SameBut it s.heap h' → Q (some (.str ⟨#[c]⟩ tk)) { s with heap := h', toks := tk + 1 }) : wpAny (model prog w) A (pyNext (.ref it)) Q E s := by
  obtain ⟨o, ho, hcl, hd⟩ := id hit
  have hn := L2.line63
  have hi : i < x.length := (Array.getElem?_eq_some_iff.mp hc).1
  unfold pyNext
  refine wpAny_bind (wpAny_attempt (wpAny_callSpecial?_slot (name := Str.ofString "__next__") hit.typeIs F.slot_rev_next
    (wpAny_call_entry F.slot_rev_next hit.typeIs F.entry_rev_next ?_ (F.args_rev_next_1 _))))
  unfold Builtin.«reversed.__next__»
  refine wpAny_bind (wpAny_of_eq (a := (Value.ref it, [])) rfl ?_)
  try dsimp only
  refine wpAny_bind (wpAny_field ho hd (x := .str x t) rfl ?_)
  refine wpAny_bind (wpAny_field ho hd (x := rawInt (i : Int)) rfl ?_)
  show wpAny _ _ (if (i : Int) < 0 then _ else _) _ _ s
  rw [if_neg (by omega)]
  refine wpAny_bind (wpAny_specialOf (typeIs_str s x t) F.slot_str_getitem.lookup ?_)
  show wpAny _ _ (if (false : Bool) = true then _ else _) _ _ s
  rw [if_neg Bool.false_ne_true]
  refine wpAny_bind (wpAny_mkInt ?_)
  refine wpAny_bind (wpAny_attempt (PyProof.Rows.getItem_str (c := c) (by
    have e1 : decide ((i : Int) < -(2 ^ 63 : Int)) = false := decide_eq_false (by omega)
    have e2 : decide ((i : Int) ≥ 2 ^ 63) = false := decide_eq_false (by omega)
    rw [e1, e2, Bool.or_false]) (by
    have e : seqIndex? (i : Int) x.length = some i := by
      unfold seqIndex?
      simp
      omega
    rw [e]
    exact hc) ?_))
  dsimp only
  refine wpAny_bind (wpAny_field ho hd (x := rawInt (i : Int)) rfl ?_)
  show wpAny _ _ (setField (.ref it) 1 (rawInt ((i : Int) - 1)) >>= _) _ _ _
  refine wpAny_bind (wpAny_setField ho hd (by simp) ?_)
  refine wpAny_pure ⟨_, rfl, wpAny_pure (hQ _ _ ?_ (Heap.SameBut.update ..))⟩
  exact ⟨_, Heap.get?_update_self _ ho (Obj.isFreed_of_fields (Obj.data_mapFields hd _)), (Obj.cls_mapFields ..).trans hcl, by
    rw [Obj.data_mapFields hd]; simp⟩
theorem wpAny_pyNext_revS_end {it : Addr} {x : Str} {t : Tok} {Q : Option Value → Shared → Prop} (hh : A.handled = none) (hit : s.heap.IsRevS it x t (-1))
    (hQ : ∀ h', Heap.ExtBut it s.heap h' → Q none { s with heap := h' }) : wpAny (model prog w) A (pyNext (.ref it)) Q E s := by
  obtain ⟨o, ho, hc, hd⟩ := id hit
  unfold pyNext
  refine wpAny_bind (wpAny_attempt (wpAny_callSpecial?_slot (name := Str.ofString "__next__") hit.typeIs F.slot_rev_next
    (wpAny_call_entry F.slot_rev_next hit.typeIs F.entry_rev_next ?_ (F.args_rev_next_1 _))))
  unfold Builtin.«reversed.__next__»
  refine wpAny_bind (wpAny_of_eq (a := (Value.ref it, [])) rfl ?_)
  try dsimp only
  refine wpAny_bind (wpAny_field ho hd (x := .str x t) rfl ?_)
  refine wpAny_bind (wpAny_field ho hd (x := rawInt (-1)) rfl ?_)
  show wpAny _ _ (if (-1 : Int) < 0 then _ else _) _ _ s
  rw [if_pos (by decide)]
  refine wpAny_bind (wpAny_rule ?_)
  refine wpAny_bind ?_
  show wpAny _ _ (setField (.ref it) 1 (rawInt (-1)) >>= fun _ => setField (.ref it) 0 .none) _ _ s
  refine wpAny_bind (wpAny_setField ho hd (by simp) ?_)
  have ho1 := Heap.get?_update_self (h := s.heap) (Obj.mapFields (·.setIfInBounds 1 (rawInt (-1)))) ho (Obj.isFreed_of_fields (Obj.data_mapFields hd _))
  refine wpAny_setField (s := { s with heap := s.heap.update it (Obj.mapFields (·.setIfInBounds 1 (rawInt (-1)))) }) ho1 (Obj.data_mapFields hd _) (by simp) ?_
  have sb := (Heap.SameBut.update s.heap it (Obj.mapFields (·.setIfInBounds 1 (rawInt (-1))))).trans (Heap.SameBut.update _ it (Obj.mapFields (·.setIfInBounds 0 Value.none)))
  first
  | show wpAny _ _ (newExc (.type "StopIteration") [] >>= _) _ _ _
  | (refine wpAny_bind ?_; show wpAny _ _ (newExc (.type "StopIteration") [] >>= _) _ _ _)
  refine wpAny_bind ?_
  simp only [newExc, newTuple]
  refine wpAny_bind (wpAny_newObj_type ?_ (by size_fits))
  refine wpAny_bind (m := firstArgMember _ _) (wpAny_of_eq (a := Value.none) (by first | rfl | (simp only [firstArgMember]; rfl)) ?_)
  refine wpAny_newObj_type ?_ (by size_fits)
  simp only [raiseNew]
  refine wpAny_bind (wpAny_handled ?_)
  first | rw [show A.in1.handled = none from hh] | rw [hh]
  refine wpAny_bind (wpAny_pure (wpAny_throw ?_))
  refine wpAny_bind (wpAny_isInstance (T := "StopIteration") (b := true) ⟨_, Heap.get?_push_size _ rfl, rfl⟩ isSubtype_stop ?_)
  exact wpAny_pure (hQ _ ((sb.extBut.push _).push _))
theorem wpAny_pyIter_revS {it : Addr} {x : Str} {t : Tok} {i : Int} {Q : Value → Shared → Prop} (hit : s.heap.IsRevS it x t i) (h : Q (.ref it) s) : wpAny (model prog w) A (pyIter (.ref it)) Q E s := by
  refine wpAny_pyIter_slot hit.typeIs F.slot_rev_iter (wpAny_call_entry F.slot_rev_iter hit.typeIs F.entry_rev_iter ?_ (F.args_rev_iter_1 _))
  show wpAny _ _ (ret (.ref it)) _ _ s
  exact wpAny_pure ⟨_, rfl, "reversed", _, hit.typeIs, F.slot_rev_next.lookup, h⟩
end
end PySem
namespace L2
open PySem PySem.Spec PyProof.Rows
def ItsR (x : Str) : It := ⟨fun i _ => i < x.cps.size, fun i H v H' => H' = H ∧ ∃ c, x.cps[x.cps.size - 1 - i]? = some c ∧ v = .str ⟨#[c]⟩, fun i _ => x.cps.size ≤ i⟩
theorem turn_revS {P : Program} {w : World} {K : PySem.W.Frag} {tg : Expr} (it : Addr) (x : Str) (t : Tok) (hx : x.length ≤ sizeLine) : Turn P w K tg (ItsR x) [it] it (fun i h => i ≤ x.cps.size ∧ h.IsRevS it x t ((x.cps.size : Int) - 1 - (i : Int))) where
  mem := by simp
  obj := fun i h st b hb => by
    have e : b = it := by simpa using hb
    subst e
    obtain ⟨_, o, e, c, d⟩ := st
    exact ⟨o, e, fun v z => by rw [d] at z; cases z⟩
  keep := fun i h h' st k => let ⟨hi, o, ho, r⟩ := st; ⟨hi, o, k it (by simp) o ho, r⟩
  item := by
    intro X hP hw hK hc i pins s σ H E I hf st hg
    subst hP hw hK
    have hi : i < x.cps.size := hg
    obtain ⟨f0, f1, f2, f3, f4, f5⟩ := hf it (by simp)
    have e : (x.cps.size : Int) - 1 - (i : Int) = ((x.cps.size - 1 - i : Nat) : Int) := by omega
    have st2 := st.2
    rw [e] at st2
    have hlt : x.cps.size - 1 - i < x.cps.size := by omega
    refine wpAny_pyNext_revS_item st2 hx (c := x.cps[x.cps.size - 1 - i]) (by simp [hlt]) fun h' tk st' sb => ?_
    have I1 : Inv X pins σ H { s with heap := h', toks := tk + 1 } := I.turned (t' := tk + 1) (fun b o hb e => (sb.2 b hb).trans e) f0 f1 f3 f4 f5
    obtain ⟨o, e', c, d⟩ := id st'
    have e2 : ((x.cps.size - 1 - i : Nat) : Int) - 1 = (x.cps.size : Int) - 1 - ((i + 1 : Nat) : Int) := by omega
    rw [e2] at st'
    exact ⟨_, rfl, go_of (s := { s with heap := h', toks := tk + 1 }) e' c d (by decide) ⟨.str ⟨#[x.cps[x.cps.size - 1 - i]]⟩, H, I1, ⟨_, rfl⟩, ⟨rfl, x.cps[x.cps.size - 1 - i], by simp [hlt], rfl⟩, ⟨by omega, st'⟩, fun b hb => (hf b hb).1⟩⟩
  done := by
    intro X hP hw hK hc i pins s σ H E I hf st hg
    subst hP hw hK
    have hi : x.cps.size ≤ i := hg
    obtain ⟨f0, f1, f2, f3, f4, f5⟩ := hf it (by simp)
    have e : (x.cps.size : Int) - 1 - (i : Int) = -1 := by have := st.1; omega
    have st2 := st.2
    rw [e] at st2
    exact wpAny_pyNext_revS_end (I.ok.hd hc) st2 fun h' eb => ⟨rfl, I.turned (t' := s.toks) (fun b o hb e => eb b o hb e) f0 f1 f3 f4 f5⟩
  self := fun _ _ _ _ _ st h => wpAny_pyIter_revS st.2 h
theorem b_reversed : bootBuiltins "reversed" = some (.type "reversed") := by decide +kernel
def iRevS (ta : TA) : TI := fun σ H R => ta σ H fun vs H1 => ∃ x, vs = [.str x] ∧ x.length ≤ sizeLine ∧ R (ItsR x) H1
theorem pi_revS {X : Cx} {tg a : Expr} {ta : TA} {p pos : Pos} (hg : Gl X "reversed") (hm : X.mg "reversed" = none) (ha : PA X [a] ta) (hs : starEach [a] X.env = [(false, eval a X.env)] := by rfl) : PI X tg (.Call (.Name "reversed" p) [a] [] pos) (iRevS ta) := by
  intro pins s σ H R I h
  refine Call_ (ld_blt I hg hm b_reversed (PyProof.Rows.callWith_type1 (thn (ha pos pins s σ H _ I h) fun us s1 ⟨vs, H1, I1, r1, q1⟩ => ?_) hs rfl))
  obtain ⟨x, e, hx, q⟩ := q1
  subst e
  cases r1 with
  | cons r rr =>
    cases rr
    obtain ⟨t, rfl⟩ := r
    refine call_reversed_str hx fun tk => ?_
    have fpk : ∀ b ∈ [s1.heap.objs.size], FpOk X pins H1 b := fun b hb => by
      have e : b = s1.heap.objs.size := by simpa using hb
      subst e
      exact I1.fpOk (Nat.le_refl _) (I1.hok.fresh (Nat.le_refl _))
    have st : Heap.IsRevS (s1.heap.push (revSObj x t ((x.length : Int) - 1))) s1.heap.objs.size x t ((x.length : Int) - 1) := ⟨_, Heap.get?_push_size _ rfl, rfl, rfl⟩
    refine wpAny_pyIter_revS st ⟨s1.heap.objs.size, [s1.heap.objs.size], _, _, H1, rfl, I1.kept (t' := tk) fun b o e => Heap.get?_push_of_some _ e, turn_revS _ x t hx, ⟨Nat.zero_le _, ?_⟩, fpk, q⟩
    have e : (x.cps.size : Int) - 1 - ((0 : Nat) : Int) = (x.length : Int) - 1 := by
      show (x.cps.size : Int) - 1 - 0 = (x.cps.size : Int) - 1
      omega
    rw [e]
    exact st
end L2
namespace L2
open PySem PySem.Spec PyProof.Rows
theorem ps_nox {X : Cx} {st : Stmt} {t : TS} (h : PS X.nox st t) : PS X st t := by
  intro pins s σ H D I q
  refine wpAny_mono (h pins s σ H D (I.wish _) q) (fun fl s2 q => ?_) fun _ _ z => False.elim z
  cases fl with
  | next => obtain ⟨σ', H', I', q⟩ := q; exact ⟨σ', H', I'.unwish, q⟩
  | brk => obtain ⟨σ', H', I', q⟩ := q; exact ⟨σ', H', I'.unwish, q⟩
  | cont => obtain ⟨σ', H', I', q⟩ := q; exact ⟨σ', H', I'.unwish, q⟩
  | ret u => obtain ⟨v, σ', H', I', r, q⟩ := q; exact ⟨v, σ', H', I'.unwish, r, q⟩
theorem for_revS {x : Str} {g : TG} {tb : TS} {D : Ends} {σ : St} {H : Hp} (Pv : Nat → St → Hp → Prop) (h0 : Pv 0 σ H)
    (hs : ∀ i c σ H, i < x.cps.size → x.cps[x.cps.size - 1 - i]? = some c → Pv i σ H → g (.str ⟨#[c]⟩) σ H fun σ2 H2 => tb { D with nx := Pv (i + 1), ct := Pv (i + 1), bk := D.nx } σ2 H2) (hd : ∀ σ H, Pv x.cps.size σ H → D.nx σ H) :
    ∃ W : Nat → Nat → St → Hp → Prop, (∃ m, W 0 m σ H) ∧ ∀ i m σ H, W i m σ H →
      ((ItsR x).stop i H ∧ D.nx σ H) ∨ ((ItsR x).go i H ∧ ∃ N : St → Hp → Prop, (∀ σ' H', N σ' H' → ∃ m', m' < m ∧ W (i + 1) m' σ' H') ∧ ∀ v H', (ItsR x).yld i H v H' → g v σ H' fun σ2 H2 => tb { D with nx := N, ct := N, bk := D.nx } σ2 H2) := by
  refine ⟨fun i m σ H => m = x.cps.size - i ∧ i ≤ x.cps.size ∧ Pv i σ H, ⟨x.cps.size, by simp, Nat.zero_le _, h0⟩, ?_⟩
  rintro i m σ H ⟨rfl, hi, p⟩
  by_cases hlt : i < x.cps.size
  · refine .inr ⟨hlt, Pv (i + 1), fun σ' H' p' => ⟨x.cps.size - (i + 1), by omega, rfl, hlt, p'⟩, fun v H' y => ?_⟩
    obtain ⟨rfl, c, hc, rfl⟩ := y
    exact hs i c σ H' hlt hc p
  · have e : i = x.cps.size := by omega
    subst e
    exact .inl ⟨Nat.le_refl _, hd σ H p⟩
end L2
namespace L2
open PySem PySem.Spec PyProof.Rows
section
variable {κ : Type} [DecidableEq κ]
def valV (kvs : List (κ × V)) (k : κ) : Option V := (kvs.find? fun kv => decide (kv.1 = k)).map (·.2)
def putK (kvs : List (κ × V)) (k : κ) (v : V) : List (κ × V) :=
  if (kvs.any fun kv => decide (kv.1 = k)) = true then kvs.map (fun kv => if kv.1 = k then (kv.1, v) else kv) else kvs ++ [(k, v)]
theorem valV_pos {p : κ × V} {r : List (κ × V)} {k : κ} (e : p.1 = k) : valV (p :: r) k = some p.2 := by simp [valV, List.find?_cons, e]
theorem valV_neg {p : κ × V} {r : List (κ × V)} {k : κ} (e : ¬ p.1 = k) : valV (p :: r) k = valV r k := by simp [valV, List.find?_cons, e]
theorem valV_any (k : κ) : ∀ kvs : List (κ × V), (kvs.any fun kv => decide (kv.1 = k)) = (valV kvs k).isSome
  | [] => rfl
  | p :: r => by
    rw [List.any_cons]
    by_cases e : p.1 = k
    · simp only [valV_pos e, decide_eq_true e, Bool.true_or, Option.isSome_some]
    · rw [valV_neg e, decide_eq_false e, Bool.false_or]; exact valV_any k r
theorem valV_map (k j : κ) (y : V) : ∀ kvs : List (κ × V), valV (kvs.map fun kv => if kv.1 = k then (kv.1, y) else kv) j = (valV kvs j).map fun x => if j = k then y else x
  | [] => rfl
  | p :: r => by
    have ih := valV_map k j y r
    rw [List.map_cons]
    by_cases h : p.1 = k
    · rw [if_pos h]
      by_cases e : p.1 = j
      · rw [valV_pos (p := (p.1, y)) e, valV_pos e, Option.map_some, if_pos (e.symm.trans h)]
      · rw [valV_neg (p := (p.1, y)) e, valV_neg e, ih]
    · rw [if_neg h]
      by_cases e : p.1 = j
      · rw [valV_pos (p := p) e, valV_pos e, Option.map_some, if_neg (fun z => h (e.trans z))]
      · rw [valV_neg (p := p) e, valV_neg e, ih]
theorem valV_snoc (k j : κ) (y : V) : ∀ kvs : List (κ × V), valV kvs k = none → valV (kvs ++ [(k, y)]) j = if j = k then some y else valV kvs j
  | [], _ => by
    by_cases e : k = j
    · rw [if_pos e.symm]; exact valV_pos (p := (k, y)) e
    · rw [if_neg (fun z => e z.symm)]; exact valV_neg (p := (k, y)) e
  | p :: r, hn => by
    rw [List.cons_append]
    have hk : ¬ p.1 = k := fun z => by rw [valV_pos z] at hn; cases hn
    rw [valV_neg hk] at hn
    have ih := valV_snoc k j y r hn
    by_cases e : p.1 = j
    · rw [valV_pos e, valV_pos e, if_neg (fun z => hk (e.trans z))]
    · rw [valV_neg e, valV_neg e, ih]
theorem valV_put (kvs : List (κ × V)) (k j : κ) (y : V) : valV (putK kvs k y) j = if j = k then some y else valV kvs j := by
  unfold putK
  by_cases a : (kvs.any fun kv => decide (kv.1 = k)) = true
  · rw [if_pos a, valV_map]
    rw [valV_any] at a
    by_cases e : j = k
    · obtain ⟨x, hx⟩ := Option.isSome_iff_exists.mp a
      rw [if_pos e, e, hx, Option.map_some, if_pos rfl]
    · rw [if_neg e]
      cases valV kvs j with
      | none => rfl
      | some x => rw [Option.map_some, if_neg e]
  · rw [if_neg a]
    refine valV_snoc k j y kvs ?_
    rw [valV_any] at a
    cases q : valV kvs k with
    | none => rfl
    | some x => rw [q] at a; exact (a rfl).elim
theorem length_putK (kvs : List (κ × V)) (k : κ) (v : V) : (putK kvs k v).length ≤ kvs.length + 1 := by
  unfold putK
  split
  · rw [List.length_map]; omega
  · rw [List.length_append, List.length_cons, List.length_nil]; omega
theorem putK_new {kvs : List (κ × V)} {k : κ} (v : V) (h : valV kvs k = none) : putK kvs k v = kvs ++ [(k, v)] := by
  unfold putK
  rw [valV_any, h]
  exact if_neg (by decide)
theorem RelO.isSome_eq {o : Option V} {u : Option Value} (r : RelO o u) : o.isSome = u.isSome := by
  cases o with
  | none => cases u with
    | none => rfl
    | some _ => exact (show False from r).elim
  | some _ => cases u with
    | none => exact (show False from r).elim
    | some _ => rfl
theorem RelO.getD {o : Option V} {u : Option Value} {d : V} {d' : Value} (r : RelO o u) (rd : RelV d d') : RelV (o.getD d) (u.getD d') := by
  cases o with
  | none => cases u with
    | none => exact rd
    | some _ => exact (show False from r).elim
  | some _ => cases u with
    | none => exact (show False from r).elim
    | some _ => exact r
theorem KV.val {kvs : List (κ × V)} {vs : List (κ × Value)} (r : KV kvs vs) (k : κ) : RelO (valV kvs k) (valueAt vs k) := by
  unfold KV at r
  induction r with
  | nil => exact True.intro
  | @cons p q ps qs h t ih =>
    obtain ⟨h1, h2⟩ := h
    by_cases e : p.1 = k
    · have e' : q.1 = k := h1.symm.trans e
      have b : valueAt (q :: qs) k = some q.2 := by simp [valueAt, List.find?_cons, e']
      rw [valV_pos e, b]; exact h2
    · have e' : ¬ q.1 = k := fun z => e (h1.trans z)
      have b : valueAt (q :: qs) k = valueAt qs k := by simp [valueAt, List.find?_cons, e']
      rw [valV_neg e, b]; exact ih
theorem KV.any {kvs : List (κ × V)} {vs : List (κ × Value)} (r : KV kvs vs) (k : κ) : (kvs.any fun kv => decide (kv.1 = k)) = vs.any fun kv => decide (kv.1 = k) := by
  unfold KV at r
  induction r with
  | nil => rfl
  | cons h t ih => rw [List.any_cons, List.any_cons, ih, h.1]
theorem KV.repl {kvs : List (κ × V)} {vs : List (κ × Value)} (r : KV kvs vs) (k : κ) {y : V} {u : Value} (ry : RelV y u) :
    KV (kvs.map fun kv => if kv.1 = k then (kv.1, y) else kv) (vs.map fun kv => if kv.1 = k then (kv.1, u) else kv) := by
  unfold KV at r ⊢
  induction r with
  | nil => exact .nil
  | @cons p q ps qs h t ih =>
    rw [List.map_cons, List.map_cons]
    refine .cons ?_ ih
    obtain ⟨h1, h2⟩ := h
    by_cases e : p.1 = k
    · rw [if_pos e, if_pos (h1.symm.trans e)]; exact ⟨h1, ry⟩
    · rw [if_neg e, if_neg (fun z => e (h1.trans z))]; exact ⟨h1, h2⟩
theorem KV.put {kvs : List (κ × V)} {vs : List (κ × Value)} (r : KV kvs vs) (k : κ) {y : V} {u : Value} (ry : RelV y u) : KV (putK kvs k y) (stored vs k u) := by
  unfold putK stored
  rw [r.any k]
  by_cases e : (vs.any fun kv => decide (kv.1 = k)) = true
  · rw [if_pos e, if_pos e]; exact r.repl k ry
  · rw [if_neg e, if_neg e]; exact Paired.snoc r ⟨rfl, ry⟩
theorem KV.length {kvs : List (κ × V)} {vs : List (κ × Value)} (r : KV kvs vs) : kvs.length = vs.length := Paired.length r
end
theorem kV_is {P : Program} {w : World} {k : Key} {u : Value} (r : RelV (kV k) u) : (mixKind P w).is k u = true := by
  cases k with
  | inl i => obtain ⟨t, e⟩ := (show ∃ t, u = Value.int i t from r); subst e; exact mixKind_int P w i t
  | inr x => obtain ⟨t, e⟩ := (show ∃ t, u = Value.str x t from r); subst e; exact mixKind_str P w x t
theorem items_are {P : Program} {w : World} : ∀ {ks : List Key} {us : List Value}, Vals (ks.map kV) us → ItemsAre (mixKind P w) ks us
  | [], _, r => by rw [List.map_nil] at r; cases r; exact .nil
  | k :: ks, _, r => by
    rw [List.map_cons] at r
    cases r with
    | cons h t => exact .cons (kV_is h) (items_are t)
abbrev KT (H : Hp) : List (List Key × V) → List (List Key × Addr × Value) → Prop := Paired fun p q => p.1 = q.1 ∧ H q.2.1 = some (.tup (p.1.map kV)) ∧ RelV p.2 q.2.2
theorem KT.val {H : Hp} {kvs : List (List Key × V)} {xs : List (List Key × Addr × Value)} (r : KT H kvs xs) (k : List Key) : RelO (valV kvs k) ((atKey xs k).map (·.2)) := by
  induction r with
  | nil => exact True.intro
  | @cons p q ps qs h t ih =>
    obtain ⟨h1, _, h2⟩ := h
    by_cases e : p.1 = k
    · have e' : q.1 = k := h1.symm.trans e
      have b : atKey (q :: qs) k = some q.2 := by simp [atKey, List.find?_cons, e']
      rw [valV_pos e, b]; exact h2
    · have e' : ¬ q.1 = k := fun z => e (h1.trans z)
      have b : atKey (q :: qs) k = atKey qs k := by simp [atKey, List.find?_cons, e']
      rw [valV_neg e, b]; exact ih
theorem KT.repl {H : Hp} {kvs : List (List Key × V)} {xs : List (List Key × Addr × Value)} (r : KT H kvs xs) (k : List Key) {y : V} {u : Value} (ry : RelV y u) :
    KT H (kvs.map fun kv => if kv.1 = k then (kv.1, y) else kv) (xs.map (putAt k u)) := by
  induction r with
  | nil => exact .nil
  | @cons p q ps qs h t ih =>
    rw [List.map_cons, List.map_cons]
    refine .cons ?_ ih
    obtain ⟨h1, h2, h3⟩ := h
    unfold putAt
    by_cases e : p.1 = k
    · rw [if_pos e, if_pos (h1.symm.trans e)]; exact ⟨h1, h2, ry⟩
    · rw [if_neg e, if_neg (fun z => e (h1.trans z))]; exact ⟨h1, h2, h3⟩
theorem KT.put {H : Hp} {kvs : List (List Key × V)} {xs : List (List Key × Addr × Value)} (r : KT H kvs xs) (k : List Key) {b : Addr} {y : V} {u : Value} (hb : H b = some (.tup (k.map kV))) (ry : RelV y u) :
    KT H (putK kvs k y) (storedH xs k b u) := by
  have e : (kvs.any fun kv => decide (kv.1 = k)) = (atKey xs k).isSome := by
    rw [valV_any, (r.val k).isSome_eq, Option.isSome_map]
  unfold putK storedH
  rw [e]
  by_cases q : (atKey xs k).isSome = true
  · rw [if_pos q, if_pos q]; exact r.repl k ry
  · rw [if_neg q, if_neg q]; exact Paired.snoc r ⟨rfl, hb, ry⟩
theorem KT.keeps {H H' : Hp} {kvs : List (List Key × V)} {xs : List (List Key × Addr × Value)} (r : KT H kvs xs) (ht : ∀ b ys, H b = some (.tup ys) → H' b = some (.tup ys)) : KT H' kvs xs :=
  Paired.mapP r fun _ _ z => ⟨z.1, ht _ _ z.2.1, z.2.2⟩
section
variable {P : Program} {w : World} {H : Hp} {h : Heap} {a : Addr}
theorem rd_of {u : HO} (ok : HOk P w H h) (e : Rd H a u) : ObjOk P w H h a u := e.ok ok
theorem dk_rd {kvs : List (Key × V)} (ok : HOk P w H h) (e : Rd H a (.dK kvs)) : kvs.length ≤ sizeLine ∧ (a == sysModules) = false ∧ ∃ vs, KV kvs vs ∧ h.DictOf (mixKind P w) a vs :=
  show ObjOk P w H h a (.dK kvs) from rd_of ok e
theorem dk_of {kvs : List (Key × V)} (ok : HOk P w H h) (e : H a = some (.dK kvs)) : kvs.length ≤ sizeLine ∧ (a == sysModules) = false ∧ ∃ vs, KV kvs vs ∧ h.DictOf (mixKind P w) a vs := dk_rd ok (.inl e)
theorem key_of {ks : List Key} (ok : HOk P w H h) (e : H a = some (.tup (ks.map kV))) : (tupleKind (mixKind P w)).is h ks a := by
  obtain ⟨_, its, r, o, h1, h2, n, h3⟩ := (show ObjOk P w H h a (.tup (ks.map kV)) from ok a _ e)
  exact ⟨o, its.toArray, n, h1, h2, h3, by simpa using items_are r⟩
theorem dt_rd {kvs : List (List Key × V)} (ok : HOk P w H h) (e : Rd H a (.dT kvs)) : kvs.length ≤ sizeLine ∧ (a == sysModules) = false ∧
    ∃ xs, KT H kvs xs ∧ h.DictOfH (tupleKind (mixKind P w)) a xs := by
  obtain ⟨z, y, xs, r, o, es, ep, h1, h2, h3, h4, h5⟩ := (show ObjOk P w H h a (.dT kvs) from rd_of ok e)
  refine ⟨z, y, xs, r, o, es, ep, h1, h2, h3, h4, fun x hx => ?_, h5⟩
  have all : ∀ {l : List (List Key × V)} {m : List (List Key × Addr × Value)}, KT H l m → ∀ x ∈ m, (tupleKind (mixKind P w)).is h x.1 x.2.1 := by
    intro l m q
    induction q with
    | nil => intro x hx; exact nomatch hx
    | @cons p q ps qs hq t ih =>
      intro x hx
      rcases List.mem_cons.mp hx with e | hx
      · subst e
        exact key_of ok (by rw [← hq.1]; exact hq.2.1)
      · exact ih x hx
  exact all r x hx
theorem dt_of {kvs : List (List Key × V)} (ok : HOk P w H h) (e : H a = some (.dT kvs)) : kvs.length ≤ sizeLine ∧ (a == sysModules) = false ∧
    ∃ xs, KT H kvs xs ∧ h.DictOfH (tupleKind (mixKind P w)) a xs := dt_rd ok (.inl e)
end
def DGet (H : Hp) (a : Addr) (y : V) (r : Option V) : Prop :=
  (∃ kvs k, Rd H a (.dK kvs) ∧ y = kV k ∧ r = valV kvs k) ∨ ∃ kvs k b, Rd H a (.dT kvs) ∧ y = .ref b ∧ H b = some (.tup (k.map kV)) ∧ r = valV kvs k
def DPut (H : Hp) (a : Addr) (y v : V) (H' : Hp) : Prop :=
  (∃ kvs k, H a = some (.dK kvs) ∧ y = kV k ∧ kvs.length < sizeLine ∧ H' = upd H a (.dK (putK kvs k v))) ∨
  ∃ kvs k b, H a = some (.dT kvs) ∧ y = .ref b ∧ H b = some (.tup (k.map kV)) ∧ kvs.length < sizeLine ∧ H' = upd H a (.dT (putK kvs k v))
theorem DGet.k {H : Hp} {a : Addr} {kvs : List (Key × V)} {k : Key} (e : H a = some (.dK kvs)) : DGet H a (kV k) (valV kvs k) := .inl ⟨kvs, k, .inl e, rfl, rfl⟩
theorem DPut.k {H : Hp} {a : Addr} {kvs : List (Key × V)} {k : Key} {v : V} (e : H a = some (.dK kvs)) (hl : kvs.length < sizeLine) : DPut H a (kV k) v (upd H a (.dK (putK kvs k v))) := .inl ⟨kvs, k, e, rfl, hl, rfl⟩
section
variable {X : Cx} {pins : List (Addr × Obj)} {σ : St} {H : Hp} {s : Shared} {a : Addr} {y v : V} {u r : Value} {o : Option V} {A : Around} {E : Value → Shared → Prop}
theorem Inv.big (I : Inv X pins σ H s) : sysModules < s.heap.objs.size := by
  have h : mainGlobals < s.heap.objs.size := (I.mod.glob.keeps I.bk).lt
  exact Nat.lt_trans (by decide) h
theorem d_write {h' : Heap} {t' : Nat} {ob : HO} (I : Inv X pins σ H s) (mu : Mut (H a)) (hs : Heap.SameBut a s.heap h') (he : ∃ q, h'.get? a = some q) (new : ObjOk X.prog X.w (upd H a ob) h' a ob) :
    Inv X pins σ (upd H a ob) { s with heap := h', toks := t' } :=
  I.write (x := a) (e := a) mu (.inl rfl) (fun b q hb z => (hs.2 b hb).trans z) he new
theorem dk_new {P : Program} {w : World} {H' : Hp} {h' : Heap} {kvs : List (Key × V)} {vs : List (Key × Value)} (z : kvs.length ≤ sizeLine) (hd : (a == sysModules) = false) (rel : KV kvs vs) (dd : h'.DictOf (mixKind P w) a vs) :
    ObjOk P w H' h' a (.dK kvs) := ⟨z, hd, vs, rel, dd⟩
theorem d_setItem {H' : Hp} {Q : Unit → Shared → Prop} (hu : A.units + 1 < cLine) (I : Inv X pins σ H s) (g : DPut H a y v H') (ry : RelV y u) (rv : RelV v r) (h : ∀ s', Inv X pins σ H' s' → Q () s') :
    wpAny (model X.prog X.w) A (setItem (.ref a) u r) Q E s := by
  rcases g with ⟨kvs, k, e, ey, l, eH⟩ | ⟨kvs, k, b, e, ey, eb, l, eH⟩
  · subst ey eH
    obtain ⟨z, hd, vs, rel, dd⟩ := dk_of I.hok e
    have hz : vs.length ≤ sizeLine := by rw [← rel.length]; exact z
    have hl : (putK kvs k v).length ≤ sizeLine := by have := length_putK kvs k v; omega
    refine wpAny_setItem_pairs (hsz := hz) (kV_is ry) dd fun h' dd' hs => h _ ?_
    have he : ∃ q, h'.get? a = some q := let ⟨q, _, _, hq, _⟩ := dd'; ⟨q, hq⟩
    exact d_write I (by rw [e]; exact True.intro) hs he (dk_new hl hd (rel.put k rv) dd')
  · subst ey eH
    cases (show u = Value.ref b from ry)
    obtain ⟨z, hd, xs, rel, dd⟩ := dt_of I.hok e
    have hz : xs.length ≤ sizeLine := by rw [← Paired.length rel]; exact z
    have hl : (putK kvs k v).length ≤ sizeLine := by have := length_putK kvs k v; omega
    refine wpAny_setItem_heap (hsz := hz) (tupleKind_room_in1 hu) (key_of I.hok eb) dd fun h' dd' hs => h _ ?_
    obtain ⟨q, es, ep, hq, h2, h3, h4, _, h5⟩ := dd'
    refine d_write I (by rw [e]; exact True.intro) hs ⟨q, hq⟩ ⟨hl, hd, _, (rel.put k eb rv).keeps fun c ys ec => ?_, q, es, ep, hq, h2, h3, h4, h5⟩
    rw [upd_ne (ne_of ec e (fun z => nomatch z))]
    exact ec
end
section
variable {X : Cx} {pins : List (Addr × Obj)} {σ : St} {H : Hp} {s : Shared} {a : Addr} {kvs : List (Key × V)} {k : Key} {u : Value} {A : Around} {E : Value → Shared → Prop}
end
def NoSl (i : Expr) : Prop := ∀ ov iv, subscripted i false ov iv = operate [ov, iv] (getItem ov iv)
theorem subD_of {prog : Program} {w : World} {A : Around} {E : Value → Shared → Prop} {s : Shared} {env : Env} {value slice : Expr} {pos : Pos} {T id : String} {Q : Value → Shared → Prop}
    (hl : typeLookup (.type T) "__getitem__" = pure (some (.builtin id))) (hs : NoSl slice)
    (h : wpAny (model prog w) A (eval value env) (fun o s₁ => wpAny (model prog w) A (eval slice env) (fun i s₂ => s₂.TypeIs o T ∧ wpAny (model prog w) A (getItem o i) Q E s₂) E s₁) E s) :
    wpAny (model prog w) A (eval (.Subscript value slice pos) env) Q E s := by
  refine Subscript_ (wpAny_mono h (fun o s₁ h₁ => wpAny_mono h₁ (fun i s₂ h₂ => ?_) fun _ _ x => x) fun _ _ x => x)
  obtain ⟨hT, h₂⟩ := h₂
  unfold subscriptTail
  refine wpAny_bind ?_
  rw [getitemInPython_of_ne hT.not_modules]
  refine wpAny_bind (wpAny_specialOf hT hl ?_)
  have fin : wpAny (model prog w) A (subscripted slice false o i) (fun r s₃ => wpAny (model prog w) A (letTemporaryGo value o r >>= fun _ => pure r) Q E s₃) E s₂ := by
    rw [hs o i]
    exact wpAny_operating (wpAny_mono h₂ (fun r s₃ h₃ => wpAny_bind (wpAny_letTemporaryGo (wpAny_pure h₃))) fun _ _ x => x)
  first
    | exact wpAny_pure (wpAny_bind fin)
    | exact wpAny_bind (wpAny_pure (wpAny_bind fin))
    | exact wpAny_bind fin
def sDPut (td ty tv : TE) : TS := fun D σ H => tv σ H fun v H1 => td σ H1 fun x H2 => ty σ H2 fun y H3 => ∃ a H4, x = .ref a ∧ DPut H3 a y v H4 ∧ D.nx σ H4
section
variable {X : Cx} {o i e value : Expr} {pos pos' tpos : Pos} {td ty tv : TE}
theorem ps_dput (hu : X.A.units + 1 < cLine) (ho : PE X o td) (hi : PE X i ty) (hv : PE X value tv) (hs : swapsWith value (some (.Subscript o i pos')) pos.line X.env = pure false) :
    PS X (.Assign [.Subscript o i pos'] value pos) (sDPut td ty tv) := by
  intro pins s σ H D I h
  refine wpAny_Assign_Subscript (thn (hv pins s σ H _ I h) fun r s1 ⟨v, H1, I1, rv, q1⟩ => thn (ho pins s1 σ H1 _ I1 q1) fun u s2 ⟨x, H2, I2, rx, q2⟩ => thn (hi pins s2 σ H2 _ I2 q2) fun iv s3 ⟨y, H3, I3, ry, a, H4, ex, g, q3⟩ => ?_) hs
  subst ex
  obtain rfl : u = Value.ref a := rx
  exact d_setItem hu I3 g ry rv fun s4 I4 => ⟨σ, H4, I4, q3⟩
end
theorem dk_empty {P : Program} {w : World} {H : Hp} (h : Heap) (hb : sysModules < h.objs.size) : ObjOk P w H (h.push { cls := .type "dict", data := .dict #[] }) h.objs.size (.dK []) :=
  ⟨Nat.zero_le _, beq_eq_false_iff_ne.mpr (Ne.symm (Nat.ne_of_lt hb)), [], .nil, Heap.DictOf.new h⟩
def tDNewK : TE := fun _ H Q => ∀ p, H p = none → Q (.ref p) (upd H p (.dK []))
section
variable {X : Cx} {pos : Pos}
theorem pe_dnewK : PE X (.Dict [] [] pos) tDNewK := fun pins s σ H Q I h =>
  wpAny_Dict_empty ⟨.ref s.heap.objs.size, _, I.laid (a := s.heap.objs.size) (o := .dK []) (t' := s.toks) (fun _ _ q => Heap.get?_push_of_some _ q) (Nat.le_refl _) (dk_empty s.heap I.big), rfl, h _ (I.hok.fresh (Nat.le_refl _))⟩
end
def tPairs : List (TE × TE) → St → Hp → (List (V × V) → Hp → Prop) → Prop
  | [], _, H, Q => Q [] H
  | (tk, tv) :: r, σ, H, Q => tk σ H fun x H1 => tv σ H1 fun y H2 => tPairs r σ H2 fun ps H3 => Q ((x, y) :: ps) H3
abbrev VV : List (V × V) → List (Value × Value) → Prop := Paired fun p q => RelV p.1 q.1 ∧ RelV p.2 q.2
def PPs (X : Cx) (pos : Pos) (keys : List (Option Expr)) (values : List Expr) (trs : List (TE × TE)) : Prop :=
  ∀ (pins : List (Addr × Obj)) (s : Shared) (σ : St) (H : Hp) (Q : List (V × V) → Hp → Prop), Inv X pins σ H s → tPairs trs σ H Q →
    wpAny (model X.prog X.w) X.A (evalPairs (pairTrees keys values X.env pos)) (fun vs s' => ∃ ps H', Inv X pins σ H' s' ∧ VV ps vs ∧ Q ps H') X.xe s
theorem pps_nil {X : Cx} {pos : Pos} : PPs X pos [] [] [] := fun pins s σ H Q I h => pairTrees_nil_walk ⟨[], H, I, .nil, h⟩
theorem pps_cons {X : Cx} {pos : Pos} {k v : Expr} {ks : List (Option Expr)} {vs : List Expr} {tk tv : TE} {trs : List (TE × TE)} (hk : PE X k tk) (hv : PE X v tv) (hr : PPs X pos ks vs trs) :
    PPs X pos (some k :: ks) (v :: vs) ((tk, tv) :: trs) := fun pins s σ H Q I h =>
  pairTrees_cons_walk (thn (hk pins s σ H _ I h) fun u s1 ⟨x, H1, I1, rx, q1⟩ => thn (hv pins s1 σ H1 _ I1 q1) fun w2 s2 ⟨y, H2, I2, ry, q2⟩ =>
    thn (hr pins s2 σ H2 _ I2 q2) fun ws s3 ⟨ps, H3, I3, rel, q3⟩ => ⟨(x, y) :: ps, H3, I3, .cons ⟨rx, ry⟩ rel, q3⟩)
def mergeK (kvs more : List (Key × V)) : List (Key × V) := more.foldl (fun acc kv => putK acc kv.1 kv.2) kvs
theorem KV.merge : ∀ {more : List (Key × V)} {rs : List (Key × Value)} {kvs : List (Key × V)} {vs : List (Key × Value)}, KV more rs → KV kvs vs → KV (mergeK kvs more) (merged vs rs) := by
  intro more rs kvs vs r
  unfold KV at r
  induction r generalizing kvs vs with
  | nil => intro q; exact q
  | @cons p q ps qs h t ih =>
    intro r0
    have e : KV (putK kvs p.1 p.2) (stored vs q.1 q.2) := by
      have := r0.put p.1 h.2
      rw [← h.1]; exact this
    exact ih e
theorem length_mergeK : ∀ (more kvs : List (Key × V)), (mergeK kvs more).length ≤ kvs.length + more.length
  | [], kvs => by show kvs.length ≤ kvs.length + 0; omega
  | p :: r, kvs => by
    have h1 := length_mergeK r (putK kvs p.1 p.2)
    have h2 := length_putK kvs p.1 p.2
    show (mergeK (putK kvs p.1 p.2) r).length ≤ _
    rw [List.length_cons]; omega
theorem carries_of {P : Program} {w : World} : ∀ {kvs : List (Key × V)} {ws : List (Value × Value)}, VV (kvs.map fun kv => (kV kv.1, kv.2)) ws → ∃ rs, Carries (mixKind P w) ws rs ∧ KV kvs rs
  | [], _, r => by rw [List.map_nil] at r; cases r; exact ⟨[], True.intro, .nil⟩
  | p :: kvs, _, r => by
    rw [List.map_cons] at r
    cases r with
    | @cons a b as bs h t =>
      obtain ⟨rs, c, q⟩ := carries_of (P := P) (w := w) t
      obtain ⟨b1, b2⟩ := b
      exact ⟨(p.1, b2) :: rs, ⟨kV_is h.1, rfl, c⟩, .cons ⟨rfl, h.2⟩ q⟩
def tDisp (trs : List (TE × TE)) : TE := fun σ H Q => ∀ p, H p = none → tPairs trs σ (upd H p (.dK [])) fun ps H2 => H2 p = some (.dK []) ∧ ∃ kvs : List (Key × V), ps = kvs.map (fun kv => (kV kv.1, kv.2)) ∧ kvs.length ≤ 15 ∧ Q (.ref p) (upd H2 p (.dK (mergeK [] kvs)))
theorem pe_disp {X : Cx} {pos : Pos} {keys : List (Option Expr)} {values : List Expr} {trs : List (TE × TE)} (h : PPs X pos keys values trs) (hall : keys.all (·.isSome) = true) (hl : keys.length = values.length) (h0 : keys ≠ [])
    (h15 : keys.length ≤ 15) : PE X (.Dict keys values pos) (tDisp trs) := by
  intro pins s σ H Q I q
  have hn := I.hok.fresh (Nat.le_refl s.heap.objs.size)
  have I1 := I.laid (a := s.heap.objs.size) (o := .dK []) (h' := s.heap.push { cls := .type "dict", data := .dict #[] }) (t' := s.toks) (fun _ _ q => Heap.get?_push_of_some _ q) (Nat.le_refl _) (dk_empty s.heap I.big)
  refine wpAny_Dict_walk (knd := mixKind X.prog X.w) hall hl h0 h15 (thn (h pins _ σ _ _ I1 (q _ hn)) fun ws s2 ⟨ps, H2, I2, rel, e, kvs, ep, lk, q2⟩ => ?_)
  subst ep
  obtain ⟨rs, c, rk⟩ := carries_of (P := X.prog) (w := X.w) rel
  obtain ⟨z, hd, vs0, r0, dd⟩ := dk_of I2.hok e
  cases r0
  refine ⟨rs, c, dd, fun h' dd' hs => ⟨.ref s.heap.objs.size, _, ?_, rfl, q2⟩⟩
  have hz : (mergeK [] kvs).length ≤ sizeLine := by
    have h1 := length_mergeK kvs []
    rw [List.length_nil] at h1
    rw [sizeLine_eq]; omega
  have he : ∃ q, h'.get? s.heap.objs.size = some q := let ⟨q, _, _, hq, _⟩ := dd'; ⟨q, hq⟩
  exact d_write I2 (by rw [e]; exact True.intro) hs he (dk_new hz hd (rk.merge .nil) dd')
structure M2 (X : Cx) (o : Expr) (m : Str) (apos : Pos) (e f : Expr) (cpos : Pos) : Prop where
  base : attributeBase o m X.env (eval o X.env) = eval o X.env
  few : ((backTo cpos (starEach [e, f] X.env)).all (fun x => !x.1) && (backToKw cpos (keywordEach [] X.env)).all (fun x => x.1.isSome)
    && decide (([e, f] : List Expr).length + ([] : List Keyword).length + (if ([] : List Keyword).isEmpty then 0 else 1) < 30)) = true
  line : (apos.endLine == cpos.line) = true
  trees : backTo cpos (starEach [e, f] X.env) = [(false, eval e X.env), (false, eval f X.env)]
def IsD (H : Hp) (a : Addr) : Prop := (∃ kvs, Rd H a (.dK kvs)) ∨ ∃ kvs, Rd H a (.dT kvs)
theorem isD_at {X : Cx} {pins : List (Addr × Obj)} {σ : St} {H : Hp} {s : Shared} {a : Addr} (I : Inv X pins σ H s) (d : IsD H a) :
    s.TypeIs (.ref a) "dict" ∧ (∀ b, Value.ref a = .ref b → ∃ ob, s.heap.get? b = some ob ∧ ob.dict = none) ∧ (a == sysModules) = false := by
  rcases d with ⟨kvs, e⟩ | ⟨kvs, e⟩
  · obtain ⟨_, hd, vs, _, dd⟩ := dk_rd I.hok e
    refine ⟨dd.typeIs, fun b q => ?_, hd⟩
    cases q
    obtain ⟨ob, _, _, h1, h2, _⟩ := dd
    exact ⟨ob, h1, h2.2.1⟩
  · obtain ⟨_, hd, xs, _, dd⟩ := dt_rd I.hok e
    refine ⟨dd.typeIs, fun b q => ?_, hd⟩
    cases q
    obtain ⟨ob, _, _, h1, h2, _⟩ := dd
    exact ⟨ob, h1, h2.2.1⟩
section
variable {X : Cx} {pins : List (Addr × Obj)} {σ : St} {H : Hp} {s : Shared} {a : Addr} {y d : V} {u r : Value} {o : Option V} {A : Around} {E : Value → Shared → Prop}
theorem d_get2 {Q : Value → Shared → Prop} (hu : A.units + 1 < cLine) (I : Inv X pins σ H s) (g : DGet H a y o) (ry : RelV y u) (rd : RelV d r) (h : ∀ w' s', Inv X pins σ H s' → RelV (o.getD d) w' → Q w' s') :
    wpAny (model X.prog X.w) A (call (.builtin "dict.get") [.ref a, u, r]) Q E s := by
  rcases g with ⟨kvs, k, e, ey, l⟩ | ⟨kvs, k, b, e, ey, eb, l⟩
  · subst ey
    obtain ⟨z, hd, vs, rel, dd⟩ := dk_rd I.hok e
    refine call_meetsIn PySem.F.slot_dict_get dd.typeIs PySem.F.entry_dict_get (PySem.F.args_dict_get_3 _ _ _) (meets_dict_get_default (mixKind X.prog X.w) a (kV_is ry) hd r) ⟨_, dd.mapOf, h _ _ (I.tok _) ?_⟩
    rw [l]
    exact (rel.val k).getD rd
  · subst ey
    cases (show u = Value.ref b from ry)
    obtain ⟨z, hd, xs, rel, dd⟩ := dt_rd I.hok e
    refine call_meetsIn PySem.F.slot_dict_get dd.typeIs PySem.F.entry_dict_get (PySem.F.args_dict_get_3 _ _ _) (meetsH_dict_get_default (tupleKind (mixKind X.prog X.w)) a b hd r) ⟨tupleKind_room_in1 hu, k, xs, key_of I.hok eb, dd, h _ _ (I.tok _) ?_⟩
    rw [l]
    exact (rel.val k).getD rd
end
def tDGet2 (td ty tx : TE) : TE := fun σ H Q => td σ H fun x H1 => ∃ a, x = .ref a ∧ IsD H1 a ∧ ty σ H1 fun y H2 => tx σ H2 fun z H3 => ∃ o, DGet H3 a y o ∧ Q (o.getD z) H3
section
variable {X : Cx} {o e f : Expr} {apos cpos : Pos} {td ty tx : TE}
theorem pe_dget2 (hu : X.A.units + 1 < cLine) (ho : PE X o td) (he : PE X e ty) (hf : PE X f tx) (m : M2 X o "get" apos e f cpos) : PE X (.Call (.Attribute o "get" apos) [e, f] [] cpos) (tDGet2 td ty tx) := by
  intro pins s σ H Q I h
  refine wpAny_Call_method m.base m.few m.line PySem.F.plainAttrs_dict PySem.F.slot_dict_get PySem.F.type_dict_get (thn (ho pins s σ H _ I h) fun u s1 ⟨x, H1, I1, rx, a, ex, d, q1⟩ => ?_)
  subst ex
  obtain rfl : u = Value.ref a := rx
  obtain ⟨t1, t2, _⟩ := isD_at I1 d
  refine ⟨t1, t2, ?_⟩
  rw [m.trees]
  refine Calls.callWith_builtin rfl (Calls.evalArgs_plain (Calls.spliced_cons (thn (he pins s1 σ H1 _ I1 q1) fun iv s2 ⟨y, H2, I2, ry, q2⟩ =>
    Calls.spliced_cons (thn (hf pins s2 σ H2 _ I2 q2) fun fv s3 ⟨z, H3, I3, rz, ov, g, q3⟩ => Calls.spliced_nil ?_))))
  exact d_get2 hu I3 g ry rz fun w' s4 I4 rw' => ⟨_, H3, I4, rw', q3⟩
end
section
variable {X : Cx} {pins : List (Addr × Obj)} {σ : St} {H : Hp} {s : Shared} {a : Addr} {kvs : List (Key × V)} {A : Around} {E : Value → Shared → Prop}
end
section
variable {X : Cx} {pins : List (Addr × Obj)} {σ : St} {H : Hp} {s : Shared} {a : Addr} {y : V} {u : Value} {A : Around} {E : Value → Shared → Prop}
end
end L2
namespace L2
open PySem PySem.Spec PyProof.Rows
section
variable {κ : Type} [DecidableEq κ]
theorem valV_not {kvs : List (κ × V)} {k : κ} (h : valV kvs k = none) : ¬ k ∈ kvs.map (·.1) := by
  intro m
  obtain ⟨p, hp, e⟩ := List.mem_map.mp m
  have q : (kvs.any fun kv => decide (kv.1 = k)) = true := List.any_eq_true.mpr ⟨p, hp, decide_eq_true e⟩
  rw [valV_any, h] at q
  exact absurd q (by simp)
theorem nd_snoc : ∀ {l : List κ} {k : κ}, l.Nodup → ¬ k ∈ l → (l ++ [k]).Nodup
  | [], k, _, _ => by simp
  | a :: r, k, h, hk => by
    obtain ⟨h1, h2⟩ := List.nodup_cons.mp h
    show (a :: (r ++ [k])).Nodup
    refine List.nodup_cons.mpr ⟨fun m => ?_, nd_snoc h2 fun m => hk (List.mem_cons.mpr (Or.inr m))⟩
    rcases List.mem_append.mp m with q | q
    · exact h1 q
    · exact hk (List.mem_cons.mpr (Or.inl (List.mem_singleton.mp q).symm))
theorem nd_putK {kvs : List (κ × V)} {k : κ} (v : V) (hn : (kvs.map (·.1)).Nodup) (h : valV kvs k = none) : ((putK kvs k v).map (·.1)).Nodup := by
  rw [putK_new v h, List.map_append]
  exact nd_snoc hn (valV_not h)
end
end L2
namespace L2
open PySem PySem.Spec PyProof.Rows
def dE (P : Program) (w : World) (a : Addr) (ep : Nat) (kvs : List (Key × V)) : HO := .ext fun h => (a == sysModules) = false ∧ kvs.length ≤ sizeLine ∧ ∃ vs, KV kvs vs ∧ h.DictAt (mixKind P w) a vs ep
theorem key_rel {P : Program} {w : World} {k : Key} {u : Value} (h : (mixKind P w).is k u = true) : RelV (kV k) u := by
  rcases keyIs_shape (show keyIs k u = true from h) with ⟨i, t, rfl, rfl⟩ | ⟨x, t, rfl, rfl⟩
  · exact ⟨t, rfl⟩
  · exact ⟨t, rfl⟩
theorem de_of {P : Program} {w : World} {H : Hp} {h : Heap} {a : Addr} {ep : Nat} {kvs : List (Key × V)} (ok : HOk P w H h) (e : H a = some (dE P w a ep kvs)) : (a == sysModules) = false ∧ kvs.length ≤ sizeLine ∧ ∃ vs, KV kvs vs ∧ h.DictAt (mixKind P w) a vs ep :=
  (show ObjOk P w H h a (dE P w a ep kvs) from ok a _ e).1
section
variable {X : Cx} {pins : List (Addr × Obj)} {σ : St} {H : Hp} {s : Shared} {a : Addr} {kvs : List (Key × V)}
theorem d_pin (I : Inv X pins σ H s) (e : H a = some (.dK kvs)) : ∃ ep, Inv X pins σ (upd H a (dE X.prog X.w a ep kvs)) s := by
  obtain ⟨z, hd, vs, rel, dd⟩ := dk_of I.hok e
  obtain ⟨ep, da⟩ := dd.dictAt
  obtain ⟨o, es, ho, r⟩ := id da
  refine ⟨ep, d_write (h' := s.heap) (t' := s.toks) I (by rw [e]; exact True.intro) ⟨rfl, fun _ _ => rfl⟩ ⟨o, ho⟩ ⟨⟨hd, z, vs, rel, da⟩, ⟨o, ho⟩, ?_⟩⟩
  rintro g1 g2 ⟨a1, a2, vs', a3, o', es', a4, a5⟩ hg
  exact ⟨a1, a2, vs', a3, o', es', hg _ a4, a5⟩
end
def ItD (P : Program) (w : World) (d : Addr) (ep : Nat) (kvs : List (Key × V)) : It :=
  ⟨fun i H => H d = some (dE P w d ep kvs) ∧ i < kvs.length, fun i H x H' => H' = H ∧ ∃ p, kvs[i]? = some p ∧ x = kV p.1, fun i H => H d = some (dE P w d ep kvs) ∧ kvs.length ≤ i⟩
theorem KV.at {κ : Type} {kvs : List (κ × V)} {vs : List (κ × Value)} (r : KV kvs vs) {i : Nat} {p : κ × V} (h : kvs[i]? = some p) : ∃ u, vs[i]? = some (p.1, u) := by
  induction r generalizing i with
  | nil => simp at h
  | cons q t ih =>
    cases i with
    | zero =>
      rename_i a b _ _
      simp at h
      subst h
      exact ⟨b.2, by simp [q.1]⟩
    | succ i => exact ih (by simpa using h)
theorem turn_dict {P : Program} {w : World} {K : PySem.W.Frag} {tg : Expr} (d it : Addr) (ep : Nat) (kvs : List (Key × V)) : Turn P w K tg (ItD P w d ep kvs) [it] it (fun i h => h.IsKeyIter it d i kvs.length ep) where
  mem := by simp
  obj := fun i h st b hb => by
    have e : b = it := by simpa using hb
    subst e
    obtain ⟨o, e, c, d⟩ := st
    exact ⟨o, e, fun v z => by rw [d] at z; cases z⟩
  keep := fun i h h' st k => let ⟨o, e, r⟩ := st; ⟨o, k it (by simp) o e, r⟩
  item := by
    intro X hP hw hK hc i pins s σ H E I hf st hg
    subst hP hw hK
    obtain ⟨hq, hi⟩ := hg
    obtain ⟨_, _, vs, rel, da⟩ := de_of I.hok hq
    have hl := KV.length rel
    obtain ⟨p, hp⟩ : ∃ p, kvs[i]? = some p := ⟨kvs[i], by simp [hi]⟩
    obtain ⟨u, hu⟩ := KV.at rel hp
    obtain ⟨f0, f1, f2, f3, f4, f5⟩ := hf it (by simp)
    rw [hl] at st
    refine wpAny_pyNext_dict_item st da hu fun key h' hk st' sb => ?_
    have I1 : Inv X pins σ H { s with heap := h' } := I.turned (t' := s.toks) (fun b o hb e => (sb.2 b hb).trans e) f0 f1 f3 f4 f5
    obtain ⟨o, e, c, d⟩ := id st'
    rw [← hl] at st'
    exact ⟨key, rfl, go_of (s := { s with heap := h' }) e c d (by decide) ⟨kV p.1, H, I1, key_rel hk, ⟨rfl, p, hp, rfl⟩, st', fun b hb => (hf b hb).1⟩⟩
  done := by
    intro X hP hw hK hc i pins s σ H E I hf st hg
    subst hP hw hK
    obtain ⟨hq, hi⟩ := hg
    obtain ⟨_, _, vs, rel, da⟩ := de_of I.hok hq
    have hl := KV.length rel
    obtain ⟨f0, f1, f2, f3, f4, f5⟩ := hf it (by simp)
    rw [hl] at st
    exact wpAny_pyNext_dict_end (I.ok.hd hc) st da (by simp; omega) fun h' eb => ⟨rfl, I.turned (t' := s.toks) (fun b o hb e => eb b o hb e) f0 f1 f3 f4 f5⟩
  self := fun A i s Q E st h => by
    refine wpAny_pyIter_slot st.typeIs PySem.F.slot_dict_keyiterator_iter (wpAny_call_entry PySem.F.slot_dict_keyiterator_iter st.typeIs PySem.F.entry_dict_keyiterator_iter ?_ (PySem.F.args_dict_keyiterator_iter_1 _))
    show wpAny _ _ (ret (.ref it)) _ _ s
    exact wpAny_pure ⟨_, rfl, "dict_keyiterator", _, st.typeIs, PySem.F.slot_dict_keyiterator_next.lookup, h⟩
section
variable {X : Cx}
def iDict (P : Program) (w : World) (td : TE) : TI := fun σ H R => td σ H fun x H1 => ∃ a kvs, x = .ref a ∧ H1 a = some (.dK kvs) ∧ ∀ ep, R (ItD P w a ep kvs) (upd H1 a (dE P w a ep kvs))
theorem pi_dict {tg l : Expr} {td : TE} (hl : PE X l td) : PI X tg l (iDict X.prog X.w td) := by
  intro pins s σ H R I h
  refine thn (hl pins s σ H _ I h) fun v s1 ⟨x, H1, I1, r1, q1⟩ => ?_
  obtain ⟨a, kvs, e, hq, q⟩ := q1
  subst e
  cases r1
  obtain ⟨ep, I2⟩ := d_pin I1 hq
  obtain ⟨hd, _, vs, rel, da⟩ := de_of I2.hok upd_same
  refine wpAny_pyIter_dict hd da ?_
  refine ⟨s1.heap.objs.size, [s1.heap.objs.size], _, _, _, rfl, I2.kept (t' := s1.toks) fun b o e => Heap.get?_push_of_some _ e, turn_dict a _ ep kvs, ?_, fun b hb => ?_, q ep⟩
  · rw [KV.length rel]
    exact ⟨_, Heap.get?_push_size _ rfl, rfl, rfl⟩
  · have e : b = s1.heap.objs.size := by simpa using hb
    subst e
    exact I2.fpOk (Nat.le_refl _) (I2.hok.fresh (Nat.le_refl _))
def rIxE (P : Program) (w : World) : R2 := fun x y H Q => ∃ a k ep kvs v, x = .ref a ∧ y = kV k ∧ H a = some (dE P w a ep kvs) ∧ valV kvs k = some v ∧ Q v H
theorem pe_ixE {o i : Expr} {pos : Pos} {td ty : TE} (ho : PE X o td) (hi : PE X i ty) (hs : NoSl i) : PE X (.Subscript o i pos) (tOp (rIxE X.prog X.w) td ty) := by
  intro pins s σ H Q I h
  refine subD_of PySem.F.slot_dict_getitem.lookup hs (thn (ho pins s σ H _ I h) fun u s1 ⟨x, H1, I1, rx, q1⟩ => thn (hi pins s1 σ H1 _ I1 q1) fun iv s2 ⟨y, H2, I2, ry, a, k, ep, kvs, v, ex, ey, ha, hv, q2⟩ => ?_)
  subst ex ey
  cases rx
  obtain ⟨hd, hz, vs, rel, da⟩ := de_of I2.hok ha
  refine ⟨da.dictOf.typeIs, ?_⟩
  obtain ⟨w', hw, rw'⟩ := RelO.some_of (v := v) (o := valueAt vs k) (by rw [← hv]; exact rel.val k)
  exact wpAny_getItem_of (kV_is ry) da.dictOf.mapOf hw ⟨v, H2, I2.tok _, rw', q2⟩
end
end L2
namespace L2
open PySem PySem.Spec PyProof.Rows
theorem for_dict {P : Program} {w : World} {d : Addr} {ep : Nat} {kvs : List (Key × V)} {g : TG} {tb : TS} {D : Ends} {σ : St} {H : Hp} (Pv : Nat → St → Hp → Prop) (h0 : Pv 0 σ H) (hl : ∀ i σ H, i ≤ kvs.length → Pv i σ H → H d = some (dE P w d ep kvs))
    (hs : ∀ i p σ H, kvs[i]? = some p → Pv i σ H → g (kV p.1) σ H fun σ2 H2 => tb { D with nx := Pv (i + 1), ct := Pv (i + 1), bk := D.nx } σ2 H2) (hd : ∀ σ H, Pv kvs.length σ H → D.nx σ H) :
    ∃ W : Nat → Nat → St → Hp → Prop, (∃ m, W 0 m σ H) ∧ ∀ i m σ H, W i m σ H →
      ((ItD P w d ep kvs).stop i H ∧ D.nx σ H) ∨ ((ItD P w d ep kvs).go i H ∧ ∃ N : St → Hp → Prop, (∀ σ' H', N σ' H' → ∃ m', m' < m ∧ W (i + 1) m' σ' H') ∧ ∀ x H', (ItD P w d ep kvs).yld i H x H' → g x σ H' fun σ2 H2 => tb { D with nx := N, ct := N, bk := D.nx } σ2 H2) := by
  refine ⟨fun i m σ H => m = kvs.length - i ∧ i ≤ kvs.length ∧ Pv i σ H, ⟨kvs.length, by simp, Nat.zero_le _, h0⟩, ?_⟩
  rintro i m σ H ⟨rfl, hi, p⟩
  have q := hl i σ H hi p
  by_cases hlt : i < kvs.length
  · refine .inr ⟨⟨q, hlt⟩, Pv (i + 1), fun σ' H' p' => ⟨kvs.length - (i + 1), by omega, rfl, hlt, p'⟩, fun x H' y => ?_⟩
    obtain ⟨e, pk, y, ex⟩ := y
    subst e ex
    exact hs i pk σ _ y p
  · have e : i = kvs.length := by omega
    subst e
    exact .inl ⟨⟨q, Nat.le_refl _⟩, hd σ H p⟩
theorem itok_dict {P : Program} {w : World} {d p : Addr} {ep : Nat} {kvs : List (Key × V)} {H0 : Hp} (h : H0 d = some (dE P w d ep kvs)) (hp : d ≠ p) : ItOk (ItD P w d ep kvs) kvs.length (fun i => (kvs.map fun kv => kV kv.1).getD i .non) H0 p where
  go := fun i H hi k => ⟨k d _ hp h, hi⟩
  stop := fun H k => ⟨k d _ hp h, Nat.le_refl _⟩
  yld := fun i H v H' hi k ⟨e, q, hq, ev⟩ => ⟨e, by rw [ev, List.getD_eq_getElem?_getD, List.getElem?_map, hq]; rfl⟩
theorem pe_ixEB {X : Cx} {sc : Scope} {cl : List (Str × Addr)} {N' : List Str} {s : Shared} {H : Hp} {fp : List Addr} {o i : Expr} {pos : Pos} {td ty : TE} (ho : PE (X.blk sc cl N' s H fp) o td) (hi : PE (X.blk sc cl N' s H fp) i ty) (hs : NoSl i) : PE (X.blk sc cl N' s H fp) (.Subscript o i pos) (tOp (rIxE X.prog X.w) td ty) := pe_ixE (X := X.blk sc cl N' s H fp) ho hi hs
end L2
namespace T1
open PySem L2 PyProof.Rows
section
variable {X : Cx} {pins : List (Addr × Obj)} {σ : L2.St} {H : Hp} {s : Shared} {z z' : Addr}
end
end T1
namespace L2
open PySem PySem.Spec PyProof.Rows
section
variable {P : Program} {w : World} {A : Around} {X : Value → Shared → Prop} {s : Shared} {b : Array Keyed}
end
theorem mt_join {X : Cx} : MtR X "str.join" (fun x vs H Q => ∃ (sep : Str) (l : Addr) (xs : List Str), x = .str sep ∧ vs = [.ref l] ∧ SqL X.K H l (xs.map V.str) ∧ xs.length ≤ 20000 ∧ sep.length ≤ 100 ∧ (∀ y ∈ xs, y.length ≤ 100) ∧ Q (.str (PySem.Builtin.Str.glued sep xs)) H) := by
  intro pins s σ H x vs v us Q I rx rv h
  obtain ⟨sep, l, xs, rfl, rfl, hl, h1, hsep, hz, q⟩ := h
  obtain ⟨t, rfl⟩ := rx
  obtain ⟨u, rfl, ru⟩ := rv.one
  cases ru
  obtain ⟨its, r, pl, _⟩ := I.list hl
  obtain ⟨e1, e2⟩ := vals_strOf r
  have e3 := strValues_of e2
  have e4 : (its.map fun u => (strOf u, tokOf u)).map (·.1) = xs := by rw [List.map_map, ← e1]; rfl
  have hI : s.heap.IsList l (strValues (its.map fun u => (strOf u, tokOf u))).toArray := by rw [← e3]; exact pl.isList
  have fits : PySem.Builtin.Str.tooLong ((xs.toArray.foldl (fun a y => a + y.length + sep.length) 0)) = false :=
    StrLaws.joinFits (B := 100) hz (by have : xs.length * sep.length ≤ 20000 * 100 := Nat.mul_le_mul h1 hsep; omega)
  refine call_meets F.slot_str_join (typeIs_str s sep t) F.entry_str_join (F.args_str_join_2 _ _) (meets_str_join_list sep t l (its.map fun u => (strOf u, tokOf u)) (by rw [e4]; exact fits)) ⟨hI, ?_⟩
  generalize its.map (fun u => (strOf u, tokOf u)) = ps at e4
  match ps, e4 with
  | [], e4 =>
    subst e4
    exact ⟨by show (0 : Nat) ≤ _; exact Nat.zero_le _, ⟨.str _, H, I.tok _, ⟨_, rfl⟩, q⟩⟩
  | [p], e4 =>
    subst e4
    exact ⟨.str _, H, I, ⟨_, rfl⟩, q⟩
  | p :: p2 :: r', e4 =>
    subst e4
    exact ⟨joinFit_length fits, ⟨.str _, H, I.tok _, ⟨_, rfl⟩, q⟩⟩
end L2
namespace L2
open PySem PySem.Spec PyProof.Rows
end L2
namespace L2
open PySem PySem.Spec PyProof.Rows
section
variable {X : Cx}
end
section
variable {X : Cx} {sc : Scope} {cl : List (Str × Addr)} {N' : List Str} {s : Shared} {H : Hp} {fp : List Addr}
end
end L2
namespace L2
open PySem PySem.Spec PyProof.Rows
theorem bd1 {α : Type} {f g : List Value → α} (h : ∀ a, f [a] = g [a]) : ∀ us : List Value, us.length = 1 → f us = g us
  | [a], _ => h a
theorem bd2 {α : Type} {f g : List Value → α} (h : ∀ a b, f [a, b] = g [a, b]) : ∀ us : List Value, us.length = 2 → f us = g us
  | [a, b], _ => h a b
theorem bd3 {α : Type} {f g : List Value → α} (h : ∀ a b c, f [a, b, c] = g [a, b, c]) : ∀ us : List Value, us.length = 3 → f us = g us
  | [a, b, c], _ => h a b c
theorem bd4 {α : Type} {f g : List Value → α} (h : ∀ a b c d, f [a, b, c, d] = g [a, b, c, d]) : ∀ us : List Value, us.length = 4 → f us = g us
  | [a, b, c, d], _ => h a b c d
end L2
namespace L2
open PySem PySem.Spec PyProof.Rows
theorem vals_of {ys : List V} : ∀ {its : List Value}, ys.length = its.length → (∀ (j : Nat) (y : V) (v : Value), ys[j]? = some y → its[j]? = some v → RelV y v) → Vals ys its := by
  induction ys with
  | nil =>
    intro its h _
    cases its with
    | nil => exact .nil
    | cons _ _ => cases h
  | cons y r ih =>
    intro its h g
    cases its with
    | nil => cases h
    | cons u t => exact .cons (g 0 y u rfl rfl) (ih (Nat.succ.inj h) fun j a b h1 h2 => g (j + 1) a b h1 h2)
section
variable {X : Cx}
end
end L2
namespace L2
open PySem PySem.Spec PyProof.Rows
section
variable {X : Cx} {e st : Expr} {te : TE} {p2 pos : Pos}
def tRevL (K : PySem.W.Frag) (te : TE) (ts : St → Hp → (Option Int → Hp → Prop) → Prop) : TE := fun σ H Q => te σ H fun x H1 => ts σ H1 fun k H2 => k = some (-1) ∧ ∃ a xs, x = .ref a ∧ SqL K H2 a xs ∧ ∀ p, H2 p = none → Q (.ref p) (upd H2 p (.lst xs.reverse))
theorem pe_revL {ts} (he : PE X e te) (hk : PO X (some st) ts) : PE X (.Subscript e (.Slice none none (some st) p2) pos) (tRevL X.K te ts) := by
  intro pins s σ H Q I h
  refine Subscript_ (thn (he pins s σ H _ I h) fun v s1 ⟨x, H1, I1, r1, q1⟩ => ?_)
  refine wpAny_Slice ?_
  rw [evalPart_none]
  refine wpAny_pure (wpAny_pure ?_)
  refine thn (hk pins s1 σ H1 _ I1 q1) fun vk s3 ⟨k, H3, I3, pk, e3, a, xs, ex, hx, q⟩ => ?_
  subst e3 ex
  cases r1
  have I4 : Inv X pins σ H3 { s3 with heap := s3.heap.push { cls := .type "slice", data := .fields #[.none, .none, vk] } } := I3.kept (t' := s3.toks) fun b ob q => Heap.get?_push_of_some _ q
  obtain ⟨its, r, ht, hz⟩ := I4.list hx
  have hlen := r.length
  show wpAny (model X.prog X.w) X.A (subscriptTail e (.Slice none none (some st) p2) (.ref a) (.ref s3.heap.objs.size)) (EP X pins σ Q) X.xe { s3 with heap := s3.heap.push { cls := .type "slice", data := .fields #[.none, .none, vk] } }
  refine tail_any (ops := [.ref a, .ref s3.heap.objs.size]) ht.isList.typeIs slot_list_getitem.lookup ?_ (by with_unfolding_all rfl)
  refine wpAny_getItem_list_slice ht.isList (Heap.IsSliceOf.new ..) .none .none pk (by decide) ?_ (by rw [List.size_toArray] <;> omega)
  rw [PySem.W.krv_pick]
  refine ⟨.ref _, _, I4.laid (t' := s3.toks) (o := .lst xs.reverse) (fun b ob q => Heap.get?_push_of_some _ q) (Nat.le_refl _) ?_, rfl, q _ (I4.hok.fresh (Nat.le_refl _))⟩
  exact ⟨by rw [List.length_reverse]; exact hz, its.reverse, 0, r.reverse, Heap.get?_push_size _ rfl⟩
end
theorem call_min_ints {X : Cx} (hc : X.calm = true) : CallR X (.builtin "min") (fun xs H Q => ∃ (p : Addr) (ns : List Int), xs = [.ref p] ∧ SqL X.K H p (ns.map V.int) ∧ 0 < ns.length ∧ ∀ M, M ∈ ns → (∀ a ∈ ns, M ≤ a) → Q (.int M) H) := by
  intro pins s σ H xs us Q I r h
  obtain ⟨p, ns, rfl, hq, hne, q⟩ := h
  obtain ⟨u, rfl, ru⟩ := vals1 r
  cases ru
  obtain ⟨its, rv, pl, hz⟩ := I.list hq
  have hi : IntsAre its ns := intsAre_of rv
  obtain ⟨zs, hx⟩ := hi.allInts.items
  have hl := pl.isList
  have hns : ns = zs.toList.map (·.1) := by rw [← hi.numsOf, ← nums_intItems, ← hx]
  have hsz : 0 < zs.size := by
    have h3 := hne; rw [hns, List.length_map, Array.length_toList] at h3; exact h3
  rw [hx] at hl
  refine min_intList (I.ok.hd hc) hl hsz fun v h' tk hv hk => ?_
  obtain ⟨t, rfl⟩ := intItems_at hv
  obtain ⟨h1, h2⟩ := argBest_lt (numAt zs) (zs.size - 1)
  refine ⟨.int _, H, I.kept (t' := tk) hk, ⟨_, rfl⟩, q _ ?_ fun a ha => ?_⟩
  · rw [hns, numAt_eq]; exact getD_mem (by rw [List.length_map, Array.length_toList]; omega)
  · rw [hns] at ha
    obtain ⟨j, hj, rfl⟩ := mem_getD ha
    rw [List.length_map, Array.length_toList] at hj
    rw [← numAt_eq]; exact h2 j (by omega)
end L2
namespace L2
open PySem PySem.Spec PyProof.Rows
section
variable {X : Cx}
def tLR1 (ta : TA) : TE := fun σ H Q => ta σ H fun vs H1 => ∃ j : Int, vs = [.int j] ∧ (-(2 ^ 62) ≤ j ∧ j < 2 ^ 62) ∧ j.toNat ≤ 100000 ∧ ∀ l, H1 l = none → Q (.ref l) (upd H1 l (.lst ((List.range j.toNat).map fun k : Nat => V.int (k : Int))))
theorem pe_listRange1 {b : Expr} {ta : TA} {p p1 pos pos1 : Pos} (hA : X.A.handled = none) (hg : Gl X "list") (hm : X.mg "list" = none) (hv : bootBuiltins "list" = some (.type "list")) (hg1 : Gl X "range") (hm1 : X.mg "range" = none) (ha : PA X [b] ta)
    (hs2 : starEach [b] X.env = [(false, eval b X.env)] := by rfl)
    (he : starEach [Expr.Call (.Name "range" p1) [b] [] pos1] X.env = (false, eval (Expr.Call (.Name "range" p1) [b] [] pos1) X.env) :: starEach [] X.env := by rfl) (hpl : (backTo pos (starEach [] X.env)).any (·.1) = false := by rfl) : PE X (.Call (.Name "list" p) [.Call (.Name "range" p1) [b] [] pos1] [] pos) (tLR1 ta) := by
  intro pins s σ H Q I h
  refine wpAny_Call_Name_kw (ld_blt I hg hm hv ?_ (by decide) (by decide))
  refine PyProof.Rows.callWith_type1 ?_ he hpl
  rw [he]
  show wpAny _ _ (spliced ((false, eval _ X.env) :: backTo pos (starEach [] X.env))) _ _ s
  refine Calls.spliced_cons ?_
  refine Call_ (ld_blt I hg1 hm1 boot_range (PyProof.Rows.callWith_type1 (thn (ha pos1 pins s σ H _ I h) fun us s1 ⟨vs, H1, I1, r1, q1⟩ => ?_) hs2 rfl))
  obtain ⟨j, e, ⟨q3, q4⟩, ql, q⟩ := q1
  subst e
  cases r1 with
  | cons r rr =>
    cases rr
    obtain ⟨t', rfl⟩ := r
    refine call_range_1 ?_
    refine Calls.spliced_nil ?_
    have big : (100000 : Nat) ≤ sizeLine := by rw [sizeLine_eq]; decide
    have I2 := I1.kept (t' := s1.toks + 2) (h' := s1.heap.push { cls := .type "range", data := .fields #[.int 0 s1.toks, .int j t', .int 1 (s1.toks + 1)] }) fun b o e => Heap.get?_push_of_some _ e
    refine call_list_range (n := (j - 0).toNat) hA (IsRange.new ..) (small_one (by decide) (by decide) q3 q4) ?_ (by omega) fun h' tk acc' c' kp e hit => ?_
    · rw [rangeSize_one]
      split <;> omega
    · refine ⟨.ref _, _, I2.laid (t' := tk) (o := .lst ((List.range j.toNat).map fun k : Nat => V.int (k : Int))) kp (Nat.le_refl _) ?_, rfl, q _ (I2.hok.fresh (Nat.le_refl _))⟩
      refine ⟨by rw [List.length_map, List.length_range]; omega, acc'.toList, c', vals_of (by rw [List.length_map, List.length_range, Array.length_toList, hit.1]; omega) (fun k y v h1 h2 => ?_), by simpa using e⟩
      obtain ⟨t2, rfl⟩ := hit.2 k v (by simpa using h2)
      rw [List.getElem?_map] at h1
      have hk : k < j.toNat := by
        have := (List.getElem?_eq_some_iff.mp h2).1
        rw [Array.length_toList, hit.1] at this
        omega
      rw [List.getElem?_range hk] at h1
      cases h1
      exact ⟨t2, by simp⟩
end
end L2
namespace PySem
open PySem.Spec PyProof.Rows
section
variable {prog : Program} {w : World} {A : Around} {E : Value → Shared → Prop} {s : Shared} {K : Type} [DecidableEq K] {knd : KeyKind prog w K}
theorem dict_eq_nil {a b : Addr} {vs : List (K × Value)} {Q : Value → Shared → Prop} (ha : (a == sysModules) = false) (hb : (b == sysModules) = false) (da : s.heap.DictOf knd a vs) (db : s.heap.DictOf knd b []) (hu : A.units < cLine) (h : Q (.bool vs.isEmpty) s) :
    wpAny (model prog w) A (richCompare .Eq (.ref a) (.ref b)) Q E s := by
  have Ta : s.TypeIs (.ref a) "dict" := da.typeIs
  have Tb : s.TypeIs (.ref b) "dict" := db.typeIs
  obtain ⟨o, es, ep, ho, hc, hdat, hk, hp, hn⟩ := id da
  obtain ⟨o2, es2, ep2, ho2, hc2, hdat2, hk2, hp2, hn2⟩ := id db
  refine wpAny_richCompare_same_room Ta Tb F.slot_dict_eq (wpAny_call_entry F.slot_dict_eq Ta F.entry_dict_eq ?_ (F.args_dict_eq_2 _ _)) hu
  show wpAny _ _ (Builtin.Dict.dictSlotArgs "__eq__" ⟨[.ref a, .ref b], []⟩ >>= _) _ _ s
  unfold Builtin.Dict.dictSlotArgs
  refine wpAny_bind (wpAny_bind (wpAny_notOrdered_dict Ta ?_))
  refine wpAny_bind (wpAny_of_eq (a := (Value.ref a, [Value.ref b])) (by first | rfl | kernel_rfl) ?_)
  refine wpAny_pure ?_
  dsimp only
  refine wpAny_bind (wpAny_isInstance (b := true) Tb (by rw [isSubtype_type]; kernel_rfl) ?_)
  rw [if_neg (by decide)]
  refine wpAny_bind (wpAny_pure ?_)
  refine wpAny_bind ?_
  refine wpAny_pure ?_
  refine wpAny_bind ?_
  unfold Builtin.Dict.samePairs Builtin.Dict.showsAll
  rw [if_neg (by rw [ha]; exact Bool.false_ne_true), if_neg (by rw [hb]; exact Bool.false_ne_true)]
  refine wpAny_bind (wpAny_pure ?_)
  refine wpAny_bind (wpAny_pure ?_)
  refine wpAny_bind (wpAny_dictEntries ho hdat ?_)
  refine wpAny_bind (wpAny_dictEntries ho2 hdat2 ?_)
  have hsz : es.size = vs.length := by rw [← hp.length]; simp
  have hsz2 : es2.size = 0 := by have := hp2.length; simpa using this
  cases vs with
  | cons p r =>
    rw [if_pos (by rw [hsz, hsz2]; simp)]
    refine wpAny_bind (wpAny_rule ?_)
    refine wpAny_pure ?_
    refine wpAny_pure ⟨_, rfl, (fun q => nomatch q), h⟩
  | nil =>
    rw [if_neg (by rw [hsz, hsz2]; simp)]
    refine wpAny_bind (wpAny_dictEpoch ho hdat ?_)
    have e0 : es.size = 0 := hsz
    rw [e0]
    refine wpAny_bind (wpAny_of_eq (a := (none, ())) (by first | rfl | kernel_rfl) ?_)
    exact wpAny_pure (wpAny_pure ⟨_, rfl, (fun q => nomatch q), h⟩)
end
end PySem
namespace L2
open PySem PySem.Spec PyProof.Rows
def rEqNilD : R2 := fun x y H Q => ∃ p q kvs, x = .ref p ∧ y = .ref q ∧ H p = some (.dK kvs) ∧ H q = some (.dK []) ∧ Q (.bl kvs.isEmpty) H
theorem op_eq_nilD {X : Cx} (hu : X.A.units < cLine) : OpR X (compareOp .Eq) rEqNilD := by
  intro pins s σ H x y v u Q I rx ry h
  obtain ⟨p, q, kvs, rfl, rfl, hp, hq, k⟩ := h
  cases rx
  cases ry
  obtain ⟨_, hd, vs, rel, dd⟩ := dk_of I.hok hp
  obtain ⟨_, hd2, vs2, rel2, dd2⟩ := dk_of I.hok hq
  cases rel2
  show wpAny _ _ (richCompare .Eq _ _) _ _ _
  refine dict_eq_nil hd hd2 dd dd2 hu ⟨.bl _, H, I, ?_, k⟩
  cases rel <;> rfl
end L2
namespace T1
open PySem L2
def plainC (c : Nat) : Bool := decide (33 ≤ c) && decide (c ≤ 126) && !decide (c = 37)
def escD : D → Bool
  | .str x => decide (x.length ≤ 1) && (decide (x.length = 0) || plainC (x.cps.getD 0 0))
  | _ => false
def markS (x : Str) : Bool := decide (1 ≤ x.length) && decide (x.length ≤ 4) && x.cps.toList.all fun c => decide (c = 10) || plainC c
section
variable {P : Program} {w : World} {K : PySem.W.Frag} {mg : Str → Option Value} {base : Heap}
end
end T1
namespace T1
open PySem L2
section
variable {P : Program} {w : World} {K : PySem.W.Frag} {mg : Str → Option Value} {base : Heap}
instance : Inhabited D := ⟨.non⟩
end
end T1
namespace L2
open PySem PySem.Spec PyProof.Rows
end L2
namespace T1
open PySem L2
abbrev Dr := Str × Int × Str
abbrev Tg := Str × List Dr
abbrev Bk := List Tg
def drD (d : Dr) : D := .tup [.str d.1, .int d.2.1, .str d.2.2]
def tgD (t : Tg) : D := .tup [.str t.1, .tup (t.2.map drD)]
def bkD (b : Bk) : D := .tup (b.map tgD)
def DrOk (n : Int) (d : Dr) : Prop := markS d.1 = true ∧ (0 ≤ d.2.1 ∧ d.2.1 < n) ∧ markS d.2.2 = true
def TgOk (n : Int) (t : Tg) : Prop := escD (.str t.1) = true ∧ t.2.length ≤ 6 ∧ ∀ d ∈ t.2, DrOk n d
section
variable {z : Addr} {H : Hp}
theorem rep_door {v : V} {d : Dr} (r : Rep z H v (drD d)) : ∃ a, v = .ref a ∧ a ≠ z ∧ H a = some (.tup [.str d.1, .int d.2.1, .str d.2.2]) := by
  cases r with
  | tup h hz r =>
    cases r with
    | cons r1 r =>
      cases r with
      | cons r2 r =>
        cases r with
        | cons r3 r =>
          cases r
          cases r1
          cases r2
          cases r3
          exact ⟨_, rfl, hz, h⟩
theorem rep_doors {v : V} {ds : List Dr} (r : Rep z H v (.tup (ds.map drD))) : ∃ a xs, v = .ref a ∧ a ≠ z ∧ H a = some (.tup xs) ∧ xs.length = ds.length ∧ Reps z H xs (ds.map drD) := by
  cases r with
  | tup h hz r => exact ⟨_, _, rfl, hz, h, by have := r.length; simpa using this, r⟩
theorem rep_tongue {v : V} {t : Tg} (r : Rep z H v (tgD t)) : ∃ a b xs, v = .ref a ∧ a ≠ z ∧ b ≠ z ∧ H a = some (.tup [.str t.1, .ref b]) ∧ H b = some (.tup xs) ∧ xs.length = t.2.length ∧ Reps z H xs (t.2.map drD) := by
  cases r with
  | tup h hz r =>
    cases r with
    | cons r1 r =>
      cases r with
      | cons r2 r =>
        cases r
        cases r1
        obtain ⟨b, xs, rfl, hb, h2, h3, h4⟩ := rep_doors r2
        exact ⟨_, b, xs, rfl, hz, hb, h, h2, h3, h4⟩
theorem rep_book {v : V} {b : Bk} (r : Rep z H v (bkD b)) : ∃ a xs, v = .ref a ∧ a ≠ z ∧ H a = some (.tup xs) ∧ xs.length = b.length ∧ Reps z H xs (b.map tgD) := by
  cases r with
  | tup h hz r => exact ⟨_, _, rfl, hz, h, by have := r.length; simpa using this, r⟩
theorem reps_door {xs : List V} {ds : List Dr} {i : Nat} (r : Reps z H xs (ds.map drD)) (hi : i < ds.length) : Rep z H (xs.getD i .non) (drD (ds.getD i (⟨#[]⟩, 0, ⟨#[]⟩))) := by
  have := r.get (i := i) (by simpa using hi)
  simpa [hi] using this
theorem reps_tongue {xs : List V} {b : Bk} {i : Nat} (r : Reps z H xs (b.map tgD)) (hi : i < b.length) : Rep z H (xs.getD i .non) (tgD (b.getD i (⟨#[]⟩, []))) := by
  have := r.get (i := i) (by simpa using hi)
  simpa [hi] using this
end
def opensOf (ds : List Dr) : List Str := ds.map (·.1)
section
variable {P : Program} {w : World} {K : PySem.W.Frag} {mg : Str → Option Value} {base : Heap}
end
end T1
namespace T1
open PySem L2
abbrev dr0 : Dr := (⟨#[]⟩, 0, ⟨#[]⟩)
abbrev tg0 : Tg := (⟨#[]⟩, [])
def marksT (ds : List Dr) : List Str := ds.flatMap fun d => [d.1, d.2.2]
def marksB (b : Bk) : List Str := b.flatMap fun t => marksT t.2
section
variable {P : Program} {w : World} {K : PySem.W.Frag} {mg : Str → Option Value} {base : Heap}
end
end T1
namespace L2
open PySem PySem.Spec PyProof.Rows
end L2
namespace T1
open PySem L2
theorem getD_mem {α : Type} {xs : List α} {i : Nat} (d : α) (h : i < xs.length) : xs.getD i d ∈ xs := by
  have : xs.getD i d = xs[i] := by simp [h]
  rw [this]
  exact List.getElem_mem h
def escIn (es : List Str) (m : Str) : Bool := m.cps.toList.any fun c => es.any fun e => e == (⟨#[c]⟩ : Str)
def escB (b : Bk) : Bool := (marksB b).any (escIn (b.map (·.1)))
section
variable {P : Program} {w : World} {K : PySem.W.Frag} {mg : Str → Option Value} {base : Heap}
end
end T1
namespace L2
open PySem PySem.Spec PyProof.Rows
theorem pe_bmB {X : Cx} {sc : Scope} {cl : List (Str × Addr)} {N' : List Str} {s : Shared} {H : Hp} {fp : List Addr} {o e : Expr} {es : List Expr} {to : TE} {t : TA} {name : Str} {apos cpos : Pos} {T id : String} {r : V → List V → Hp → VK → Prop} (pa : PlainAttrs T) (slot : Slot T name id) (hty : typeOf (.builtin id) = pure (.type "method_descriptor")) (hm : MtR (X.blk sc cl N' s H fp) id r) (ho : PE (X.blk sc cl N' s H fp) o to) (ha : PA (X.blk sc cl N' s H fp) (e :: es) t)
    (hbase : attributeBase o name (X.blk sc cl N' s H fp).env (eval o (X.blk sc cl N' s H fp).env) = eval o (X.blk sc cl N' s H fp).env := by rfl)
    (hfew : ((backTo cpos (starEach (e :: es) (X.blk sc cl N' s H fp).env)).all (fun x => !x.1) && (backToKw cpos (keywordEach [] (X.blk sc cl N' s H fp).env)).all (fun x => x.1.isSome)
      && decide ((e :: es).length + ([] : List Keyword).length + (if ([] : List Keyword).isEmpty then 0 else 1) < 30)) = true := by rfl)
    (hline : (apos.endLine == cpos.line) = true := by rfl) (hs : starEach (e :: es) (X.blk sc cl N' s H fp).env = (false, eval e (X.blk sc cl N' s H fp).env) :: starEach es (X.blk sc cl N' s H fp).env := by rfl) (hplain : (backTo cpos (starEach es (X.blk sc cl N' s H fp).env)).any (·.1) = false := by rfl) :
    PE (X.blk sc cl N' s H fp) (.Call (.Attribute o name apos) (e :: es) [] cpos) (tBM X.K T r to t) := pe_bm pa slot hty hm ho ha hbase hfew hline hs hplain
end L2
namespace T1
open PySem L2
def closesT (ds : List Dr) (t : Int) : List Str := ds.filterMap fun d => if d.2.1 = t then some d.2.2 else none
def closesB (b : Bk) (t : Int) : List Str := b.flatMap fun g => closesT g.2 t
def behindB (b : Bk) (t : Nat) : Bool := (b.getD t tg0).2.any fun d => (closesB b t).any fun c => stAt d.1 c 0
section
variable {P : Program} {w : World} {K : PySem.W.Frag} {mg : Str → Option Value} {base : Heap}
end
end T1
namespace T1
open PySem L2
def bookB (b : Bk) : Bool := (b.all fun t => decide (opensOf t.2).Nodup) && !escB b && !((List.range b.length).any fun t => behindB b t)
section
variable {P : Program} {w : World} {K : PySem.W.Frag} {mg : Str → Option Value} {base : Heap}
end
end T1
namespace T1
open PySem L2
section
variable {P : Program} {w : World} {K : PySem.W.Frag} {mg : Str → Option Value} {base : Heap}
theorem flatN_nil {f : Nat → Option V} : ∀ n, (flatN (fun i => (f i).toList) n).isEmpty = (List.range n).all fun i => (f i).isNone
  | 0 => rfl
  | n + 1 => by
    rw [List.range_succ, List.all_append, ← flatN_nil n]
    simp only [flatN, List.all_cons, List.all_nil, Bool.and_true]
    cases f n <;> simp
end
end T1
namespace T1
open PySem L2
section
variable {P : Program} {w : World} {K : PySem.W.Frag} {mg : Str → Option Value} {base : Heap}
theorem escD_cases (x : Str) (h : x.length ≤ 1) : (x = Str.ofString "" ∧ escD (.str x) = true) ∨ ∃ c, x = ⟨#[c]⟩ ∧ escD (.str x) = plainC c := by
  obtain ⟨cs⟩ := x
  have h : cs.size ≤ 1 := h
  by_cases h0 : cs.size = 0
  · have : cs = #[] := Array.eq_empty_of_size_eq_zero h0
    subst this
    exact .inl ⟨by decide +kernel, by decide +kernel⟩
  · obtain ⟨c, hc⟩ := Array.size_eq_one_iff.mp (show cs.size = 1 by omega)
    subst hc
    exact .inr ⟨c, rfl, rfl⟩
end
end T1
namespace T1
open PySem L2
def Bag (z : Addr) (H : Hp) : Prop := ∃ c s : Int, H z = some (.lst [.int c, .int s])
def Aft (z : Addr) (H H' : Hp) : Prop := SameX z H H' ∧ Bag z H'
theorem Aft.trans {z : Addr} {H H1 H2 : Hp} (a : Aft z H H1) (b : Aft z H1 H2) : Aft z H H2 := ⟨a.1.trans b.1, b.2⟩
theorem Aft.same {z : Addr} {H H1 H2 : Hp} (a : Aft z H H1) (b : Same H1 H2) : Aft z H H2 := ⟨a.1.trans b.x, let ⟨c, s, h⟩ := a.2; ⟨c, s, b _ _ h⟩⟩
theorem Aft.refl {z : Addr} {H : Hp} (h : Bag z H) : Aft z H H := ⟨.refl, h⟩
inductive spTake : List V → Hp → VK → XK → Prop where
  | mk {vs : List V} {H : Hp} {Q : VK} {E : XK} (z : _) (n : Int) (c1 : vs = [.ref z, .int n]) (c2 : Bag z H) (c3 : 0 < n) (c4 : n < 1000000) (c5 : ∀ (r : Nat) H', (r : Int) < n → Aft z H H' → Q (.int r) H') : spTake vs H Q E
section
variable {P : Program} {w : World} {K : PySem.W.Frag} {mg : Str → Option Value} {base : Heap}
structure Txt2 (mg : Str → Option Value) : Prop where
  list : mg "list" = none
  set : mg "set" = none
  min : mg "min" = none
inductive spBag (K : PySem.W.Frag) : List V → Hp → VK → XK → Prop where
  | mk {vs : List V} {H : Hp} {Q : VK} {E : XK} (a : _) (ns : List Int) (i : Nat) (c1 : vs = [.ref a, .int i]) (c2 : SqL K H a (ns.map V.int)) (c3 : i ≤ 100) (c4 : ∀ p H', H p = none → Same H H' → Bag p H' → Q (.ref p) H') : spBag K vs H Q E
end
end T1
namespace T1
open PySem L2
def signsOk (x : Str) : Prop := ∀ c ∈ x.cps.toList, (decide (c = 10) || plainC c) = true
inductive spMk : List V → Hp → VK → XK → Prop where
  | mk {vs : List V} {H : Hp} {Q : VK} {E : XK} (z x : _) (c1 : vs = [.ref z, .str x]) (c2 : Bag z H) (c3 : 1 ≤ x.length) (c4 : x.length ≤ 100) (c5 : signsOk x) (c6 : ∀ m H', markS m = true → Aft z H H' → Q (.str m) H') : spMk vs H Q E
section
variable {P : Program} {w : World} {K : PySem.W.Frag} {mg : Str → Option Value} {base : Heap}
theorem str_len_append (x y : Str) : (x ++ y).length = x.length + y.length := by
  show (x.cps ++ y.cps).size = _
  rw [Array.size_append]; rfl
theorem str_list_append (x y : Str) : (x ++ y).cps.toList = x.cps.toList ++ y.cps.toList := by
  show (x.cps ++ y.cps).toList = _
  rw [Array.toList_append]
end
end T1
namespace T1
open PySem L2
def inEsc (e : Str) (d : Dr) : Bool := !(Builtin.Str.occurrences (d.1 ++ Str.ofString " " ++ d.2.2) e 0 (d.1 ++ Str.ofString " " ++ d.2.2).length 1).isEmpty
def fit1 (t o : Tg) : Bool := !((!decide (V.str t.1 = V.str (Str.ofString ""))) && o.2.any (inEsc t.1))
def fit3 (b : Bk) (d : Dr) : Bool := !((b.getD d.2.1.toNat tg0).2.any fun o => stAt o.1 d.2.2 0)
def fitT (b : Bk) (t : Tg) : Bool := b.all (fit1 t) && decide (opensOf t.2).Nodup && t.2.all (fit3 b)
def fitsB (b : Bk) : Bool := b.all (fitT b)
theorem all_of {α : Type} (xs : List α) (d : α) (p : α → Bool) (h : ∀ j, j < xs.length → p (xs.getD j d) = true) : xs.all p = true := by
  rw [List.all_eq_true]
  intro x hx
  obtain ⟨i, hi, rfl⟩ := List.mem_iff_getElem.mp hx
  have := h i hi
  simpa [hi] using this
theorem all_no {α : Type} (xs : List α) (d : α) (p : α → Bool) {i : Nat} (hi : i < xs.length) (h : p (xs.getD i d) = false) : xs.all p = false := by
  rw [List.all_eq_false]
  refine ⟨xs[i], List.getElem_mem hi, ?_⟩
  have : xs.getD i d = xs[i] := by simp [hi]
  rw [← this, h]
  simp
theorem flt_empty {α : Type} (ds : List α) (d : α) (p : α → Bool) (g : Nat → V) {n : Nat} (hn : n = ds.length) : (flatN (fun i => (if p (ds.getD i d) then some (g i) else none).toList) n).isEmpty = !(ds.any p) := by
  subst hn
  rw [flatN_nil, Bool.eq_iff_iff, List.all_eq_true, Bool.not_eq_true', List.any_eq_false]
  constructor
  · intro h x hx hp
    obtain ⟨i, hi, rfl⟩ := List.mem_iff_getElem.mp hx
    have h2 := h i (List.mem_range.mpr hi)
    have e : ds.getD i d = ds[i] := by simp [hi]
    rw [e, if_pos hp] at h2
    cases h2
  · intro h i hi
    have hi := List.mem_range.mp hi
    have h2 := h ds[i] (List.getElem_mem hi)
    have e : ds.getD i d = ds[i] := by simp [hi]
    rw [e, if_neg h2]
    rfl
theorem inEsc_iff {c : Nat} (hc : plainC c = true) (d : Dr) : inEsc ⟨#[c]⟩ d = true ↔ c ∈ d.1.cps.toList ∨ c ∈ d.2.2.cps.toList := by
  unfold inEsc
  rw [StrLaws.found_iff]
  have e : (d.1 ++ Str.ofString " " ++ d.2.2).cps.toList = d.1.cps.toList ++ [32] ++ d.2.2.cps.toList := by
    rw [str_list_append, str_list_append]
    have : (Str.ofString " ").cps.toList = [32] := by decide +kernel
    rw [this]
  have h32 : c ≠ 32 := by
    intro h
    subst h
    exact absurd hc (by decide)
  constructor
  · rintro ⟨i, h⟩
    have h2 := (StrLaws.subAt_one _ _ _).mp h
    rw [e] at h2
    have := List.mem_of_getElem? h2
    simp at this
    rcases this with h | h | h
    · exact .inl (by simpa using h)
    · exact absurd h h32
    · exact .inr (by simpa using h)
  · intro h
    have : c ∈ (d.1 ++ Str.ofString " " ++ d.2.2).cps.toList := by
      rw [e]
      simp
      rcases h with h | h
      · exact .inl (by simpa using h)
      · exact .inr (.inr (by simpa using h))
    obtain ⟨i, hi⟩ := List.mem_iff_getElem?.mp this
    exact ⟨i, (StrLaws.subAt_one _ _ _).mpr hi⟩
theorem escB_iff (b : Bk) : escB b = true ↔ ∃ t ∈ b, ∃ o ∈ b, ∃ d ∈ o.2, ∃ c, t.1 = ⟨#[c]⟩ ∧ (c ∈ d.1.cps.toList ∨ c ∈ d.2.2.cps.toList) := by
  unfold escB escIn marksB marksT
  simp only [List.any_eq_true, List.mem_flatMap, List.mem_cons, List.not_mem_nil, or_false, List.mem_map, beq_iff_eq]
  constructor
  · rintro ⟨m, ⟨o, ho, d, hd, hm⟩, c, hc, e, ⟨t, ht, rfl⟩, he⟩
    refine ⟨t, ht, o, ho, d, hd, c, he, ?_⟩
    rcases hm with rfl | rfl
    · exact .inl hc
    · exact .inr hc
  · rintro ⟨t, ht, o, ho, d, hd, c, he, h | h⟩
    · exact ⟨d.1, ⟨o, ho, d, hd, .inl rfl⟩, c, h, t.1, ⟨t, ht, rfl⟩, he⟩
    · exact ⟨d.2.2, ⟨o, ho, d, hd, .inr rfl⟩, c, h, t.1, ⟨t, ht, rfl⟩, he⟩
theorem str_empty : (Str.ofString "") = ⟨#[]⟩ := by decide +kernel
theorem fit1_no {n : Int} {b : Bk} (hb : ∀ t ∈ b, TgOk n t) : (∃ t ∈ b, b.all (fit1 t) = false) ↔ escB b = true := by
  rw [escB_iff]
  constructor
  · rintro ⟨t, ht, h⟩
    rw [List.all_eq_false] at h
    obtain ⟨o, ho, h⟩ := h
    unfold fit1 at h
    simp only [Bool.not_eq_true', Bool.not_eq_false, Bool.and_eq_true, decide_eq_false_iff_not, List.any_eq_true] at h
    obtain ⟨h1, d, hd, h2⟩ := h
    have h1' : t.1 ≠ Str.ofString "" := fun z => h1 (by rw [z])
    have hl : t.1.length ≤ 1 := by
      have := (hb t ht).1
      unfold escD at this
      simp at this
      exact this.1
    rcases escD_cases t.1 hl with ⟨ex, _⟩ | ⟨c, ex, ee⟩
    · exact absurd ex h1'
    · have hc : plainC c = true := by rw [← ee]; exact (hb t ht).1
      rw [ex] at h2
      exact ⟨t, ht, o, ho, d, hd, c, ex, (inEsc_iff hc d).mp h2⟩
  · rintro ⟨t, ht, o, ho, d, hd, c, ex, h⟩
    refine ⟨t, ht, ?_⟩
    rw [List.all_eq_false]
    refine ⟨o, ho, ?_⟩
    have hc : plainC c = true := by
      have := (hb t ht).1
      rw [ex] at this
      exact this
    unfold fit1
    simp only [Bool.not_eq_true', Bool.not_eq_false, Bool.and_eq_true, decide_eq_false_iff_not, List.any_eq_true]
    refine ⟨fun z => ?_, d, hd, ?_⟩
    · have z' : t.1 = Str.ofString "" := by injection z
      rw [ex, str_empty] at z'
      simp at z'
    · rw [ex]
      exact (inEsc_iff hc d).mpr h
theorem fit3_no {b : Bk} (hb : ∀ t ∈ b, TgOk b.length t) : (∃ t ∈ b, t.2.all (fit3 b) = false) ↔ ((List.range b.length).any fun t => behindB b t) = true := by
  unfold behindB closesB closesT
  simp only [List.any_eq_true, List.mem_range, List.mem_flatMap, List.mem_filterMap]
  constructor
  · rintro ⟨t, ht, h⟩
    rw [List.all_eq_false] at h
    obtain ⟨d, hd, h⟩ := h
    unfold fit3 at h
    simp only [Bool.not_eq_true', Bool.not_eq_false, List.any_eq_true] at h
    obtain ⟨o, ho, h⟩ := h
    obtain ⟨_, ⟨h1, h2⟩, _⟩ := (hb t ht).2.2 d hd
    refine ⟨d.2.1.toNat, by omega, o, ho, d.2.2, ⟨t, ht, d, hd, ?_⟩, h⟩
    rw [if_pos (by omega)]
  · rintro ⟨n, hn, o, ho, c, ⟨t, ht, d, hd, hdc⟩, h⟩
    split at hdc
    · rename_i e
      obtain rfl : d.2.2 = c := by simpa using hdc
      refine ⟨t, ht, ?_⟩
      rw [List.all_eq_false]
      refine ⟨d, hd, ?_⟩
      unfold fit3
      simp only [Bool.not_eq_true', Bool.not_eq_false, List.any_eq_true]
      refine ⟨o, ?_, h⟩
      rw [e]
      simpa using ho
    · cases hdc
theorem fits_book {b : Bk} (hb : ∀ t ∈ b, TgOk b.length t) : fitsB b = bookB b := by
  have h1 := fit1_no hb
  have h3 := fit3_no hb
  unfold bookB
  cases e1 : escB b with
  | true =>
    obtain ⟨t, ht, h⟩ := h1.mpr e1
    simp only [Bool.not_true, Bool.and_false, Bool.false_and]
    unfold fitsB
    rw [List.all_eq_false]
    refine ⟨t, ht, ?_⟩
    unfold fitT
    rw [h]
    simp
  | false =>
    cases e3 : ((List.range b.length).any fun t => behindB b t) with
    | true =>
      obtain ⟨t, ht, h⟩ := h3.mpr e3
      simp only [Bool.not_true, Bool.and_false]
      unfold fitsB
      rw [List.all_eq_false]
      refine ⟨t, ht, ?_⟩
      unfold fitT
      rw [h]
      simp
    | false =>
      simp only [Bool.not_false, Bool.and_true]
      unfold fitsB
      rw [Bool.eq_iff_iff, List.all_eq_true, List.all_eq_true]
      have a1 : ∀ t ∈ b, b.all (fit1 t) = true := fun t ht => by
        cases q : b.all (fit1 t) with
        | true => rfl
        | false => rw [h1.mp ⟨t, ht, q⟩] at e1; cases e1
      have a3 : ∀ t ∈ b, t.2.all (fit3 b) = true := fun t ht => by
        cases q : t.2.all (fit3 b) with
        | true => rfl
        | false => rw [h3.mp ⟨t, ht, q⟩] at e3; cases e3
      constructor
      · intro h t ht
        have := h t ht
        unfold fitT at this
        rw [a1 t ht, a3 t ht, Bool.true_and, Bool.and_true] at this
        exact this
      · intro h t ht
        unfold fitT
        rw [a1 t ht, a3 t ht, Bool.true_and, Bool.and_true]
        exact h t ht
end T1
namespace L2
open PySem PySem.Spec PyProof.Rows
def SqS (H : Hp) (a : Addr) (xs : List V) : Prop := H a = some (.tup xs) ∨ H a = some (.lst xs)
theorem SqS.same {H H' : Hp} {a : Addr} {xs : List V} (h : SqS H a xs) (s : Same H H') : SqS H' a xs := h.elim (fun h => .inl (s _ _ h)) fun h => .inr (s _ _ h)
theorem for_seq {K : PySem.W.Frag} {te te' : TE} {a : Addr} {xs : List V} {g : TG} {tb : TS} {D : Ends} {σ : St} {H : Hp} (h : SqS H a xs) (he : ∀ R : VK, R (.ref a) H → te σ H R) (he' : ∀ R : VK, R (.ref a) H → te' σ H R) (Pv : Nat → St → Hp → Prop) (h0 : Pv 0 σ H) (hl : ∀ i σ H', Pv i σ H' → Same H H')
    (hs : ∀ i x σ H, xs[i]? = some x → Pv i σ H → g x σ H fun σ2 H2 => tb { D with nx := Pv (i + 1), ct := Pv (i + 1), bk := D.nx } σ2 H2) (hd : ∀ σ H, Pv xs.length σ H → D.nx σ H) :
    tFor (fun σ H R => iTup K te σ H R ∨ iList K te' σ H R) g tb D σ H := by
  rcases h with h | h
  · exact .inl (he _ ⟨a, rfl, ⟨xs, SqT.of h⟩, for_tup (K := K) (a := a) (xs := xs) Pv h0 (fun i σ H' _ q => SqT.of (hl i σ H' q _ _ h)) hs hd⟩)
  · exact .inr (he' _ ⟨a, rfl, ⟨xs, SqL.of h⟩, for_list (K := K) (a := a) (xs := xs) Pv h0 (fun i σ H' _ q => SqL.of (hl i σ H' q _ _ h)) hs hd⟩)
theorem ix_of {K : PySem.W.Frag} {H : Hp} {a : Addr} {xs : List V} {j : Nat} {v : V} {Q : VK} (h : SqS H a xs) (hv : xs[j]? = some v) (q : Q v H) : rIx K (.ref a) (.int j) H Q := by
  rcases h with h | h
  · exact .inr (.inl ⟨a, xs, j, v, rfl, rfl, SqT.of h, atI_nat hv, q⟩)
  · exact .inl ⟨a, xs, j, v, rfl, rfl, SqL.of h, atI_nat hv, q⟩
end L2
namespace T1
open PySem L2
inductive spFits : List V → Hp → VK → XK → Prop where
  | mk {vs : List V} {H : Hp} {Q : VK} {E : XK} (z a xs b : _) (c1 : vs = [.ref a]) (c2 : SqS H a xs) (c3 : Reps z H xs (b.map tgD)) (c4 : b.length ≤ 7) (c5 : (∀ t ∈ b, TgOk b.length t)) (c6 : ∀ H', Same H H' → Q (.bl (fitsB b)) H') : spFits vs H Q E
theorem markS_len {x : Str} (h : markS x = true) : x.length ≤ 4 ∧ 1 ≤ x.length := by
  unfold markS at h
  simp only [Bool.and_eq_true, decide_eq_true_eq] at h
  omega
section
variable {P : Program} {w : World} {K : PySem.W.Frag} {mg : Str → Option Value} {base : Heap}
theorem ndDE : (["door", "escape"] : List Str).Nodup := by decide +kernel
theorem ndD : (["door"] : List Str).Nodup := by decide +kernel
theorem ndOD : (["one", "door"] : List Str).Nodup := by decide +kernel
end
end T1
namespace L2
open PySem PySem.Spec PyProof.Rows
section
variable {X : Cx}
def rCatX : R2 := fun x y H Q => ∃ a b xs ys, x = .ref a ∧ y = .ref b ∧ H a = some (.tup xs) ∧ H b = some (.tup ys) ∧ xs.length + ys.length ≤ sizeLine ∧ ∀ p H', Same H H' → H' p = some (.tup (xs ++ ys)) → Q (.ref p) H'
theorem op_catX : OpR X (binaryOp .Add) rCatX := by
  intro pins s σ H x y v u Q I rx ry h
  obtain ⟨a, b, xs, ys, rfl, rfl, ha, hb, hz, q⟩ := h
  by_cases hx : xs = []
  · subst hx
    cases rx
    cases ry
    obtain ⟨its, r1, p1, _⟩ := I.tuple (SqT.of ha)
    obtain ⟨its2, r2, p2, _⟩ := I.tuple (SqT.of hb)
    cases r1
    obtain ⟨⟨cls, dd, data, sl⟩, ho, hc, n, hd⟩ := id p1
    obtain ⟨⟨cls2, dd2, data2, sl2⟩, ho2, hc2, n2, hd2⟩ := id p2
    simp only at hc hd hc2 hd2
    subst hc hd hc2 hd2
    exact concat_meets ⟨_, ho, rfl⟩ ⟨_, ho2, rfl⟩ noFill_tuple_add seq_tuple_add PySem.F.slot_tuple_add PySem.F.entry_tuple_add (PySem.F.args_tuple_add_2 _ _)
      (tuple_addW0 a b _ its2.toArray n n2 dd dd2 sl sl2 (by simp)) ⟨ho, ho2, ⟨.ref b, H, I, rfl, q b H (Same.refl H) hb⟩⟩
  · refine op_catT pins s σ H _ _ v u Q I rx ry ⟨a, b, xs, ys, rfl, rfl, SqT.of ha, SqT.of hb, hx, hz, fun hy => ?_, fun hy p np => q p _ (Same.new np) upd_same⟩
    refine q a H (Same.refl H) ?_
    rw [hy, List.append_nil]
    exact ha
end
end L2
namespace HT
open PySem PySem.Spec PyProof.Rows L2
section
variable {prog : Program} {w : World} {A : Around} {E : Value → Shared → Prop} {s : Shared}
end
end HT
namespace L2
open PySem PySem.Spec PyProof.Rows
section
variable {X : Cx}
end
end L2
namespace L2
open PySem PySem.Spec PyProof.Rows
section
variable {X : Cx}
theorem loop_range {lo : Int} {n : Nat} {g : TG} {tr : TR} {Qe : St → Hp → Prop} {σ : St} {H : Hp} (Pv : Nat → St → Hp → Prop) (h0 : Pv 0 σ H) (hs : ∀ i σ H, i < n → Pv i σ H → g (.int (lo + i)) σ H fun σ2 H2 => tr σ2 H2 (Pv (i + 1))) (hd : ∀ σ H, Pv n σ H → Qe σ H) : tLoop (Itr lo n) g tYes tr Qe σ H := by
  refine ⟨fun i m σ H => m = n - i ∧ i ≤ n ∧ Pv i σ H, ⟨n, rfl, Nat.zero_le _, h0⟩, ?_⟩
  rintro i m σ H ⟨rfl, hi, p⟩
  by_cases hlt : i < n
  · refine .inr ⟨hlt, Pv (i + 1), fun σ' H' p' => ⟨n - (i + 1), by omega, rfl, hlt, p'⟩, fun x H' y => ?_⟩
    obtain ⟨e, y⟩ := y
    subst e y
    exact hs i σ _ hlt p
  · have e : i = n := by omega
    subst e
    exact .inl ⟨Nat.le_refl _, hd σ H p⟩
theorem loop_by {J : It} {n : Nat} {item : Nat → V} {g : TG} {tr : TR} {Qe : St → Hp → Prop} {σ : St} {H : Hp} (Pv : Nat → St → Hp → Prop) (h0 : Pv 0 σ H) (hgo : ∀ i σ H, i < n → Pv i σ H → J.go i H) (hst : ∀ σ H, Pv n σ H → J.stop n H) (hy : ∀ i σ H x H', i < n → Pv i σ H → J.yld i H x H' → H' = H ∧ x = item i)
    (hs : ∀ i σ H, i < n → Pv i σ H → g (item i) σ H fun σ2 H2 => tr σ2 H2 (Pv (i + 1))) (hd : ∀ σ H, Pv n σ H → Qe σ H) : tLoop J g tYes tr Qe σ H := by
  refine ⟨fun i m σ H => m = n - i ∧ i ≤ n ∧ Pv i σ H, ⟨n, rfl, Nat.zero_le _, h0⟩, ?_⟩
  rintro i m σ H ⟨rfl, hi, p⟩
  by_cases hlt : i < n
  · refine .inr ⟨hgo i σ H hlt p, Pv (i + 1), fun σ' H' p' => ⟨n - (i + 1), by omega, rfl, hlt, p'⟩, fun x H' y => ?_⟩
    obtain ⟨e, e2⟩ := hy i σ H x H' hlt p y
    subst e e2
    exact hs i σ _ hlt p
  · have e : i = n := by omega
    subst e
    exact .inl ⟨hst σ H p, hd σ H p⟩
end
end L2
namespace T1
open PySem L2
def mask (a : Addr) (H : Hp) : Hp := fun x => if x = a then none else H x
theorem mask_ne {a x : Addr} {H : Hp} (h : x ≠ a) : mask a H x = H x := if_neg h
theorem mask_upd {a : Addr} {H : Hp} {o : HO} : mask a (upd H a o) = mask a H := by
  funext x
  unfold mask upd
  by_cases h : x = a
  · rw [if_pos h, if_pos h]
  · rw [if_neg h, if_neg h, if_neg h]
theorem mask_some {a x : Addr} {H : Hp} {o : HO} (h : mask a H x = some o) : x ≠ a ∧ H x = some o := by
  unfold mask at h
  by_cases e : x = a
  · rw [if_pos e] at h; cases h
  · rw [if_neg e] at h; exact ⟨e, h⟩
theorem mask_x {a z : Addr} {H H' : Hp} (s : SameX z H H') : SameX z (mask a H) (mask a H') := fun b o hb h => by
  obtain ⟨h1, h2⟩ := mask_some h
  rw [mask_ne h1]
  exact s b o hb h2
theorem mask_le {a z : Addr} {H : Hp} : SameX z (mask a H) H := fun b o _ h => (mask_some h).2
theorem mask_new {a l z : Addr} {H H' : Hp} (hl : H l = none) (s : SameX z H H') : SameX z (mask a H) (mask l H') := fun b o hb h => by
  obtain ⟨h1, h2⟩ := mask_some h
  rw [mask_ne (ne_of_none h2 hl)]
  exact s b o hb h2
theorem Reps.set {z : Addr} {H : Hp} {v : V} {d : D} (r : Rep z H v d) : ∀ {vs : List V} {ds : List D} (i : Nat), Reps z H vs ds → Reps z H (vs.set i v) (ds.set i d)
  | _, _, _, .nil => .nil
  | _, _, 0, .cons _ t => .cons r t
  | _, _, i + 1, .cons h t => .cons h (Reps.set r i t)
theorem Reps.append {z : Addr} {H : Hp} : ∀ {vs ws : List V} {ds es : List D}, Reps z H vs ds → Reps z H ws es → Reps z H (vs ++ ws) (ds ++ es)
  | _, _, _, _, .nil, h => h
  | _, _, _, _, .cons a t, h => .cons a (Reps.append t h)
def LBk (z a : Addr) (b : Bk) (H : Hp) : Prop := a ≠ z ∧ ∃ vs, H a = some (.lst vs) ∧ Reps z (mask a H) vs (b.map tgD)
theorem LBk.aft {z a : Addr} {b : Bk} {H H' : Hp} (L : LBk z a b H) (s : SameX z H H') : LBk z a b H' := by
  obtain ⟨ha, vs, h, r⟩ := L
  exact ⟨ha, vs, s _ _ ha h, r.mono (mask_x s)⟩
theorem Bag.ne {z p : Addr} {H : Hp} (h : Bag z H) (np : H p = none) : p ≠ z := by
  obtain ⟨c, s, e⟩ := h
  exact (ne_of_none e np).symm
theorem Bag.neT {z p : Addr} {H : Hp} {xs : List V} (h : Bag z H) (np : H p = some (.tup xs)) : p ≠ z := by
  obtain ⟨c, s, e⟩ := h
  exact ne_of np e (by intro q; cases q)
theorem Aft.new {z p : Addr} {H H' : Hp} {o : HO} (a : Aft z H H') (np : H' p = none) : Aft z H (upd H' p o) := a.same (Same.new np)
theorem Aft.upd {z p : Addr} {H H' : Hp} {o : HO} (a : Aft z H H') (np : H p = none) (hp : p ≠ z) : Aft z H (L2.upd H' p o) := by
  refine ⟨fun b u hb e => ?_, ?_⟩
  · rw [upd_ne (ne_of_none e np)]
    exact a.1 b u hb e
  · obtain ⟨c, s, e⟩ := a.2
    exact ⟨c, s, by rw [upd_ne hp.symm]; exact e⟩
def BkOk (b : Bk) : Prop := 1 ≤ b.length ∧ b.length ≤ 6 ∧ (∀ t ∈ b, TgOk b.length t) ∧ bookB b = true
inductive spBook : List V → Hp → VK → XK → Prop where
  | mk {vs : List V} {H : Hp} {Q : VK} {E : XK} (z : _) (c1 : vs = [.ref z]) (c2 : Bag z H) (c3 : ∀ v b H', Aft z H H' → Rep z H' v (bkD b) → BkOk b → Q v H') : spBook vs H Q E
theorem pickH {H : Hp} {p : Addr} {l : List V} (h : H p = some (.lst l)) {r : Nat} (hr : r < l.length) : ∃ x, l[r]? = some x ∧ x ∈ l := ⟨l[r], by simp [hr], List.getElem_mem hr⟩
theorem Aft.none {z p : Addr} {H H' : Hp} (a : Aft z H H') (np : H' p = none) : H p = none := by
  cases e : H p with
  | none => rfl
  | some o =>
    rw [a.1 p o (a.2.ne np) e] at np
    cases np
theorem ixN_nat {n j : Nat} (h : j < n) : ixN n (j : Int) = some j := by
  unfold ixN
  rw [if_pos (by omega), if_pos (by omega)]
  simp
theorem fits_empty {b : Bk} (h : ∀ t ∈ b, t.2 = []) : fitsB b = true := by
  unfold fitsB
  rw [List.all_eq_true]
  intro t ht
  unfold fitT
  rw [h t ht]
  have : b.all (fit1 t) = true := by
    rw [List.all_eq_true]
    intro o ho
    unfold fit1
    rw [h o ho]
    simp
  rw [this]
  rfl
section
variable {P : Program} {w : World} {K : PySem.W.Frag} {mg : Str → Option Value} {base : Heap}
theorem ndTBE : (["tongue", "bag", "escapes"] : List Str).Nodup := by decide +kernel
end
end T1
namespace T1
open PySem L2
theorem Bag.same {z : Addr} {H H' : Hp} (h : Bag z H) (s : Same H H') : Bag z H' := let ⟨c, e, q⟩ := h; ⟨c, e, s _ _ q⟩
section
variable {z : Addr}
theorem big1000 : (1000 : Nat) ≤ sizeLine := by rw [sizeLine_eq]; decide
end
section
variable {X : Cx} {es : List Expr} {te : TE} {t : TA}
theorem pa_K {c : Const} {k : Nat} {pos : Pos} (h : PE X (.Constant c k pos) te) (hr : PA X es t) : PA X (.Constant c k pos :: es) (tCons te t) := pa_cons h hr rfl
theorem pa_T {l : List Expr} {k : Nat} {pos : Pos} (h : PE X (.Tuple l k pos) te) (hr : PA X es t) : PA X (.Tuple l k pos :: es) (tCons te t) := pa_cons h hr rfl
theorem pa_L {l : List Expr} {pos : Pos} (h : PE X (.List l pos) te) (hr : PA X es t) : PA X (.List l pos :: es) (tCons te t) := pa_cons h hr rfl
theorem pa_B {o : Operator} {a b : Expr} {pos : Pos} (h : PE X (.BinOp a o b pos) te) (hr : PA X es t) : PA X (.BinOp a o b pos :: es) (tCons te t) := pa_cons h hr rfl
end
section
variable {P : Program} {w : World} {K : PySem.W.Frag} {mg : Str → Option Value} {base : Heap}
end
end T1
namespace T1
open PySem L2
section
variable {P : Program} {w : World} {K : PySem.W.Frag} {mg : Str → Option Value} {base : Heap}
end
end T1
namespace T1
open PySem L2
mutual
inductive NoL : D → Prop where
  | non : NoL .non
  | bl (b : Bool) : NoL (.bl b)
  | int (i : Int) : NoL (.int i)
  | str (x : Str) : NoL (.str x)
  | tup {ds : List D} (t : NoLs ds) : NoL (.tup ds)
inductive NoLs : List D → Prop where
  | nil : NoLs []
  | cons {d : D} {ds : List D} (h : NoL d) (t : NoLs ds) : NoLs (d :: ds)
end
mutual
theorem Rep.updL {z p : Addr} {H : Hp} {l l' : List V} (hp : H p = some (.lst l)) : ∀ {v : V} {d : D}, Rep z H v d → NoL d → Rep z (upd H p (.lst l')) v d
  | _, _, .non, _ => .non
  | _, _, .bl b, _ => .bl b
  | _, _, .int i, _ => .int i
  | _, _, .str x h, _ => .str x h
  | _, _, .tup h hz r, .tup t => .tup (by rw [upd_ne (ne_of h hp (by intro q; cases q))]; exact h) hz (Reps.updL hp r t)
theorem Reps.updL {z p : Addr} {H : Hp} {l l' : List V} (hp : H p = some (.lst l)) : ∀ {vs : List V} {ds : List D}, Reps z H vs ds → NoLs ds → Reps z (upd H p (.lst l')) vs ds
  | _, _, .nil, _ => .nil
  | _, _, .cons h t, .cons h' t' => .cons (Rep.updL hp h h') (Reps.updL hp t t')
end
end T1
namespace T1
open PySem L2
section
variable {P : Program} {w : World} {K : PySem.W.Frag} {mg : Str → Option Value} {base : Heap}
end
end T1
namespace T1
open PySem L2
def top (i : Nat) : Stmt := PySem.Challenge.pw_tonguenest_k14_whole_put_in_by_fewest_es.main.body.getD i (.Pass ⟨0, 0, 0, 0⟩)
abbrev sIsNumberBelow : Stmt := top 1
abbrev sWithin : Stmt := top 13
abbrev sPoss : Stmt := top 14
abbrev sRoomBehind : Stmt := top 16
abbrev sCouldFit : Stmt := top 17
abbrev sPutIn : Stmt := top 18
abbrev sFewestEscapes : Stmt := top 19
abbrev lBag : Stmt := top 21
abbrev lTake : Stmt := top 22
abbrev lMk : Stmt := top 23
abbrev lFits : Stmt := top 24
abbrev lBook : Stmt := top 25
abbrev lMarks : Stmt := top 26
abbrev lText : Stmt := top 27
abbrev lDoor : Stmt := top 28
abbrev lInside : Stmt := top 29
abbrev lUnput : Stmt := top 30
abbrev lFewest : Stmt := top 31
abbrev lKinds : Stmt := top 32
abbrev lTried : Stmt := top 33
abbrev lOwnText : Stmt := top 34
abbrev lLaw : Stmt := top 35
end T1
namespace T1
open PySem L2
structure TxtB (mg : Str → Option Value) : Prop where
  len : mg "len" = none
  ord : mg "ord" = none
  all_ : mg "all" = none
  any_ : mg "any" = none
  isinst : mg "isinstance" = none
  str : mg "str" = none
  int : mg "int" = none
  bool : mg "bool" = none
  tuple : mg "tuple" = none
  range : mg "range" = none
  sorted : mg "sorted" = none
  max : mg "max" = none
end T1
namespace T1
open PySem L2
section
variable {P : Program} {w : World} {K : PySem.W.Frag} {mg : Str → Option Value} {base : Heap}
theorem scTake : FnScope ["bag", "many", "found"] ["bag", "many"] (defScope lTake) := ⟨rfl, rfl, rfl, by decide +kernel, rfl, by decide +kernel, by decide +kernel⟩
theorem ok_take {f : Addr} {fd : FuncData} (F : Fun K "_law_take" "_law_take" lTake f fd) : FnOk P w K mg base CX0 1 f fd ["bag", "many"] spTake := by
  refine F.ok scTake (fun vs H Q E h => ?_) (fun cdv A outer s H vs Q E hr h => ?_)
  · obtain ⟨z, n, rfl, _⟩ := h
    rfl
  · obtain ⟨z, n, rfl, ⟨c, e, hz⟩, hn, hn2, k⟩ := h
    have nd := scTake.nd
    refine ⟨_, pss_cons (ps_if (pt_cmpR op_gt (pe_ix ix_list (pv 0) pe_int (fun _ _ => rfl)) pe_int (nomark _))
        (pss_cons (ps_set (i := 2) nd rfl (Or.inl rfl) (pe_op op_mod (pe_ix ix_list (pv 0) pe_int (fun _ _ => rfl)) (pv 1)))
        (pss_cons (ps_asg (pe_op op_fdiv (pe_ix ix_list (pv 0) pe_int (fun _ _ => rfl)) (pv 1)) (pg_sub (pv 0) pe_int set_list))
        (pss_one (ps_ret (pv 2))))) pss_nil)
      (pss_cons (ps_asg (pe_op op_mod (pe_op op_mul (pe_ix ix_list (pv 0) pe_int (fun _ _ => rfl)) pe_int) pe_int) (pg_sub (pv 0) pe_int set_list))
      (pss_one (ps_ret (pe_op op_mod (pe_op op_fdiv (pe_op op_mod (pe_op op_mul (pe_op op_fdiv (pe_ix ix_list (pv 0) pe_int (fun _ _ => rfl)) pe_int) (pe_op op_add (pe_op op_mod (pe_ix ix_list (pv 0) pe_int (fun _ _ => rfl)) pe_int) pe_int)) pe_int) pe_int) (pv 1))))), ?_⟩
    dsimp only [cxOf, Cx.nox, Cx.wish]
    refine ⟨_, rfl, z, _, 0, _, rfl, rfl, SqL.of hz, atI_nat (j := 0) rfl, _, _, rfl, rfl, _, rfl, ?_⟩
    have ex : ∀ x : Int, ∃ r : Nat, x % n = (r : Int) ∧ (r : Int) < n := fun x => ⟨(x % n).toNat, by have := Int.emod_nonneg x (show n ≠ 0 by omega); omega, by have := Int.emod_lt_of_pos x hn; have := Int.emod_nonneg x (show n ≠ 0 by omega); omega⟩
    refine ite2 (fun h1 => ?_) (fun h1 => ?_)
    · refine ⟨_, rfl, z, _, 0, _, rfl, rfl, SqL.of hz, atI_nat (j := 0) rfl, _, rfl, _, _, rfl, rfl, hn, ?_⟩
      refine ⟨_, rfl, z, _, 0, _, rfl, rfl, SqL.of hz, atI_nat (j := 0) rfl, _, rfl, _, _, rfl, rfl, ⟨hn, by omega⟩, ?_⟩
      refine ⟨_, rfl, z, _, 0, 0, rfl, rfl, hz, rfl, ?_⟩
      obtain ⟨r, er, hr1⟩ := ex c
      refine ⟨_, rfl, ?_⟩
      have q := k r (upd H z (.lst [.int (c / n), .int e])) hr1 ⟨SameX.refl.upd, ⟨_, _, upd_same⟩⟩
      rw [← er] at q
      exact q
    · refine ⟨_, rfl, z, _, 1, _, rfl, rfl, SqL.of hz, atI_nat (j := 1) rfl, _, _, rfl, rfl, .inr (by decide), _, _, rfl, rfl, (by show (0 : Int) < _; decide), ?_⟩
      refine ⟨_, rfl, z, _, 1, 1, rfl, rfl, hz, rfl, ?_⟩
      refine ⟨_, rfl, z, _, 1, _, rfl, rfl, SqL.of upd_same, atI_nat (j := 1) rfl, _, _, rfl, rfl, ⟨by decide, by decide⟩, _, rfl, z, _, 1, _, rfl, rfl, SqL.of upd_same, atI_nat (j := 1) rfl, _, _, rfl, rfl, (by show (0 : Int) < _; decide), _, _, rfl, rfl, _, _, rfl, rfl, ?_⟩
      refine ⟨.inr ?_, _, _, rfl, rfl, (by show (0 : Int) < _; decide), _, _, rfl, rfl, ⟨by decide, by decide⟩, _, rfl, _, _, rfl, rfl, hn, ?_⟩
      · have a1 := Int.emod_nonneg (e * 48271 % 2147483647) (show (32749 : Int) ≠ 0 by decide)
        have a2 := Int.emod_lt_of_pos (e * 48271 % 2147483647) (show (0 : Int) < 32749 by decide)
        omega
      · obtain ⟨r, er, hr1⟩ := ex (e * 48271 % 2147483647 / 13 * (e * 48271 % 2147483647 % 32749 + 17) % 2147483629 / 32)
        have q := k r (upd H z (.lst [.int c, .int (e * 48271 % 2147483647)])) hr1 ⟨SameX.refl.upd, ⟨_, _, upd_same⟩⟩
        rw [← er] at q
        exact q
theorem scBag : FnScope ["script", "k", "cell", "seed"] ["script", "k"] (defScope lBag) := ⟨rfl, rfl, rfl, by decide +kernel, rfl, by decide +kernel, by decide +kernel⟩
theorem ok_bag {f : Addr} {fd : FuncData} (F : Fun K "_law_bag" "_law_bag" lBag f fd) (T : TxtB mg) : FnOk P w K mg base CX0 1 f fd ["script", "k"] (spBag K) := by
  refine F.ok scBag (fun vs H Q E h => ?_) (fun cdv A outer s H vs Q E hr h => ?_)
  · obtain ⟨z, n, i, rfl, _⟩ := h
    rfl
  · obtain ⟨a, ns, i, rfl, ha, hi, k⟩ := h
    have nd := scBag.nd
    refine ⟨_, pss_cons (ps_set (i := 2) nd rfl (Or.inl rfl) pe_int)
      (pss_cons (ps_if (pt_cmpR op_lt (pv 1) (pe_callB call_len_seq (by rfl) T.len b_len (pa_cons (pv 0) pa_nil)) (nomark _))
        (pss_one (ps_set (i := 2) nd rfl (Or.inl rfl) (pe_op op_mod (pe_ix ix_list (pv 0) (pv 1) (fun _ _ => rfl)) (pe_op op_pow pe_int pe_int)))) pss_nil)
      (pss_cons (ps_set (i := 3) nd rfl (Or.inl rfl) (pe_op op_add pe_int (pe_op op_mod (pe_op op_add (pe_op op_add (pe_op op_add (pe_op op_mul (pe_op op_mod (pv 2) pe_int) pe_int) (pe_op op_mul (pe_op op_mul pe_int (pv 1)) (pv 1))) (pe_op op_mul pe_int (pv 1))) pe_int) pe_int)))
      (pss_cons (ps_if (pt_cmpR op_lt (pv 2) (pe_op op_pow pe_int pe_int) (nomark _)) (pss_one (ps_ret (pe_lst (pa_cons pe_int (pa_cons (pv 3) pa_nil))))) pss_nil)
      (pss_one (ps_ret (pe_lst (pa_cons (pv 2) (pa_cons (pv 3) pa_nil)))))))), ?_⟩
    dsimp only [cxOf, Cx.nox, Cx.wish]
    have small : (2 : Nat) ≤ sizeLine := by rw [sizeLine_eq]; decide
    refine ⟨_, rfl, _, rfl, a, _, rfl, .inl ha, _, _, rfl, rfl, _, rfl, ?_⟩
    refine ite2 (fun h1 => ?g1) (fun h1 => ?g2)
    case' g1 =>
      have hlt : i < ns.length := by simp at h1; omega
      refine ⟨_, rfl, _, rfl, a, _, _, .int ns[i], rfl, rfl, ha, atI_nat (by simp [hlt]), _, _, rfl, rfl, ⟨by decide, by decide, by decide⟩, _, _, rfl, rfl, (by show (0 : Int) < _; decide), ?_⟩
    all_goals
      refine ⟨_, rfl, _, _, rfl, rfl, (by show (0 : Int) < _; decide), _, _, rfl, rfl, .inr (by decide), _, rfl, _, _, rfl, rfl, .inl (by decide), _, rfl, _, _, rfl, rfl, .inr (by omega), _, _, rfl, rfl, _, rfl, _, _, rfl, rfl, .inl (by decide), _, _, rfl, rfl, _, _, rfl, rfl, _, _, rfl, rfl, (by show (0 : Int) < _; decide), _, _, rfl, rfl, ?_⟩
      refine ⟨_, rfl, _, _, rfl, rfl, ⟨by decide, by decide, by decide⟩, _, _, rfl, rfl, _, rfl, ?_⟩
      refine ite2 (fun h1 => ?_) (fun h1 => ?_)
      · exact ⟨_, rfl, small, fun p np => k p _ np (Same.new np) ⟨_, _, upd_same⟩⟩
      · exact ⟨_, rfl, _, rfl, small, fun p np => k p _ np (Same.new np) ⟨_, _, upd_same⟩⟩
end
end T1
namespace T1
open PySem L2
section
variable {P : Program} {w : World} {K : PySem.W.Frag} {mg : Str → Option Value} {base : Heap}
theorem scMk : FnScope ["bag", "signs", "found", "turn"] ["bag", "signs"] (defScope lMk) := ⟨rfl, rfl, rfl, by decide +kernel, rfl, by decide +kernel, by decide +kernel⟩
theorem ok_mk {f f1 : Addr} {fd fd1 : FuncData} (F : Fun K "_law_mark" "_law_mark" lMk f fd) (T : TxtB mg) (k1 : PySem.W.keepIn K (.ref f1) = true) (b1 : Binds K fd1 ["bag", "many"] []) (m1 : mg "_law_take" = some (.ref f1)) (G1 : FnOk P w K mg base CX0 1 f1 fd1 ["bag", "many"] spTake) : FnOk P w K mg base CX0 2 f fd ["bag", "signs"] spMk := by
  refine F.ok scMk (fun vs H Q E h => ?_) (fun cdv A outer s H vs Q E hr h => ?_)
  · obtain ⟨z, n, rfl, _⟩ := h
    rfl
  · obtain ⟨z, x, rfl, hB, hx1, hx2, hx3, k⟩ := h
    have nd := scMk.nd
    refine ⟨_, pss_cons (ps_set (i := 2) nd rfl (Or.inl rfl) pe_str)
      (pss_cons (ps_for PassesOwn.never rfl (pi_range1 rfl T.range (pa_cons (pe_op op_add pe_int (pe_ix ix_list (pe_lst (pa_cons pe_int (pa_cons pe_int (pa_cons pe_int (pa_cons (pe_call G1 hr rfl m1 k1 b1 .nil pass0 (pa_cons (pv 0) (pa_cons pe_int pa_nil))) pa_nil))))) (pe_call G1 hr rfl m1 k1 b1 .nil pass0 (pa_cons (pv 0) (pa_cons pe_int pa_nil))) (fun _ _ => rfl))) pa_nil))
        (pg_name (i := 3) nd rfl (Or.inl rfl))
        (pss_one (ps_set (i := 2) nd rfl (Or.inl rfl) (pe_op op_add_str (pv 2) (pe_ix ix_str (pv 1) (pe_call G1 hr rfl m1 k1 b1 .nil pass0 (pa_cons (pv 0) (pa_cons (pe_callB call_len_str (by rfl) T.len b_len (pa_cons (pv 1) pa_nil)) pa_nil))) (fun _ _ => rfl))))))
      (pss_one (ps_ret (pv 2)))), ?_⟩
    dsimp only [cxOf, Cx.nox, Cx.wish]
    have small : (1000 : Nat) ≤ sizeLine := by rw [sizeLine_eq]; decide
    refine ⟨_, rfl, z, 4, rfl, hB, by decide, by decide, fun r H1 hr1 a1 => ?_⟩
    refine ⟨by show (4 : Nat) ≤ _; omega, fun p np => ⟨_, rfl, z, 4, rfl, ?_, by decide, by decide, fun r2 H2 hr2 a2 => ?_⟩⟩
    · exact (a1.same (Same.new np)).2
    · have a12 : Aft z H H2 := (a1.same (Same.new np)).trans a2
      have hpz : p ≠ z := by
        obtain ⟨c, e, h⟩ := a1.2
        exact (ne_of_none h np).symm
      have hp2 : H2 p = some (.lst [.int 0, .int 0, .int 1, .int r]) := a2.1 p _ hpz upd_same
      obtain ⟨n, hn1, hn2, hn3⟩ : ∃ n : Nat, ([V.int 0, V.int 0, V.int 1, V.int r] : List V)[r2]? = some (.int n) ∧ n ≤ 3 ∧ True := by
        match r2, hr2 with
        | 0, _ => exact ⟨0, rfl, by omega, trivial⟩
        | 1, _ => exact ⟨0, rfl, by omega, trivial⟩
        | 2, _ => exact ⟨1, rfl, by omega, trivial⟩
        | 3, _ => exact ⟨r, rfl, by omega, trivial⟩
        | m + 4, h => omega
      refine ⟨p, _, r2, .int n, rfl, rfl, SqL.of hp2, atI_nat hn1, 1, n, rfl, rfl, 1 + n, rfl, by omega, by omega, ?_⟩
      have en : (1 + (n : Int)).toNat = 1 + n := by omega
      rw [en]
      refine for_range (fun i σ H3 => ∃ m u, σ = [some (.ref z), some (.str x), some (.str m), u] ∧ Aft z H H3 ∧ m.length = i ∧ signsOk m) ⟨_, none, rfl, a12, by decide +kernel, ?_⟩ ?_ ?_
      · intro c hc
        have : (Str.ofString "").cps.toList = [] := by decide +kernel
        rw [this] at hc
        cases hc
      · rintro i σ H3 hi ⟨m, u, rfl, a3, hm1, hm2⟩
        refine ⟨_, rfl, _, rfl, _, rfl, _, rfl, x, rfl, by omega, z, x.length, rfl, a3.2, by omega, by omega, fun r3 H4 hr3 a4 => ?_⟩
        have hr4 : r3 < x.cps.toList.length := by
          have : x.cps.toList.length = x.length := by simp; rfl
          omega
        refine ⟨x, r3, x.cps.toList[r3], rfl, rfl, by omega, atI_nat (by simp [hr4]), m, _, rfl, rfl, ?_, ?_⟩
        · show m.length + 1 ≤ _
          omega
        · refine ⟨_, _, rfl, a3.trans a4, ?_, fun c hc => ?_⟩
          · rw [str_len_append]
            show m.length + 1 = _
            omega
          · rw [str_list_append] at hc
            rcases List.mem_append.mp hc with hc | hc
            · exact hm2 c hc
            · have : c = x.cps.toList[r3] := by simpa using hc
              rw [this]
              exact hx3 _ (List.getElem_mem hr4)
      · rintro σ H3 ⟨m, u, rfl, a3, hm1, hm2⟩
        refine ⟨_, rfl, k m H3 ?_ a3⟩
        unfold markS
        rw [decide_eq_true (show 1 ≤ m.length by omega), decide_eq_true (show m.length ≤ 4 by omega)]
        simp only [Bool.true_and, List.all_eq_true]
        exact hm2
end
end T1
namespace T1
open PySem L2
section
variable {P : Program} {w : World} {K : PySem.W.Frag} {mg : Str → Option Value} {base : Heap}
theorem scFits : FnScope ["book", "escape", "doors", "other", "more", "door", "some"] ["book"] (defScope lFits) := ⟨rfl, rfl, rfl, by decide +kernel, rfl, by decide +kernel, by decide +kernel⟩
set_option maxHeartbeats 1000000 in
theorem ok_fits {f : Addr} {fd : FuncData} (F : Fun K "_law_fits_book" "_law_fits_book" lFits f fd) (T : TxtB mg) (T2 : Txt2 mg) : FnOk P w K mg base CX0 1 f fd ["book"] spFits := by
  refine F.ok scFits (fun vs H Q E h => ?_) (fun cdv A outer s H vs Q E hr h => ?_)
  · obtain ⟨z, a, xs, b, rfl, _⟩ := h
    rfl
  · obtain ⟨z, a, xs, b, rfl, hS, R, hb7, hok, k⟩ := h
    have nd := scFits.nd
    refine ⟨_, pss_cons (ps_for PassesOwn.never rfl (PI.or (pi_tup (pv 0)) (pi_list (pv 0))) (pg_tup rfl (pgs_cons (pg_name (i := 1) nd rfl (Or.inr rfl)) (pgs_cons (pg_name (i := 2) nd rfl (Or.inl rfl)) pgs_nil)))
        (pss_cons (ps_for PassesOwn.never rfl (PI.or (pi_tup (pv 0)) (pi_list (pv 0))) (pg_tup rfl (pgs_cons (pg_name (i := 3) nd rfl (Or.inl rfl)) (pgs_cons (pg_name (i := 4) nd rfl (Or.inl rfl)) pgs_nil)))
          (pss_cons (ps_setcomp1 (i := 6) (N' := ["door", "escape"]) (js := [none, some 1]) rfl rfl nd rfl (Or.inl rfl) (blk_of (defScope lFits) (by decide +kernel)) ⟨rfl, Or.inr (Or.inl rfl), rfl, trivial⟩ (pi_tup (pv 4))
            (fun cl s H fp => pg_name (i := 0) ndDE rfl (Or.inl rfl))
            (fun cl s H fp => pts_one (pt_cmpR op_in_str (pv 1) (pe_op op_add_str (pe_op op_add_str (pe_ix ix_tupB (pv 0) pe_int (fun _ _ => rfl)) pe_str) (pe_ix ix_tupB (pv 0) pe_int (fun _ _ => rfl))) (by with_unfolding_all rfl))) (fun cl s H fp => pv 0))
          (pss_one (ps_if (PW.pt (pw_and (pt_cmpR op_ne (pv 1) pe_str (nomark _)) (pw_and1 (pt_cmpR (op_ne_nil hr.units0) (pv 6) (pe_lst pa_nil) (nomark _))))) (pss_one (ps_ret pe_bl)) pss_nil))))
        (pss_cons (ps_if (pt_cmpR op_ne (pe_callB call_len_setL (by rfl) T.len b_len (pa_cons (pe_callTy (call_set_texts rfl) (by rfl) T2.set b_set (pa_cons (pe_comp1 (N' := ["door"]) (js := [none]) rfl rfl (blk_of (defScope lFits) (by decide +kernel)) trivial (pi_tup (pv 2))
            (fun cl s H fp => pg_name (i := 0) ndD rfl (Or.inl rfl)) (fun cl s H fp => pts_nil) (fun cl s H fp => pe_ix ix_tupB (pv 0) pe_int (fun _ _ => rfl))) pa_nil)) pa_nil)) (pe_callB call_len_seq (by rfl) T.len b_len (pa_cons (pv 2) pa_nil)) (nomark _)) (pss_one (ps_ret pe_bl)) pss_nil)
        (pss_one (ps_for PassesOwn.never rfl (pi_tup (pv 2)) (pg_name (i := 5) nd rfl (Or.inr rfl))
          (pss_one (ps_if (pt_cmpR (op_ne_nil hr.units0) (pe_comp1 (N' := ["one", "door"]) (js := [none, some 5]) rfl rfl (blk_of (defScope lFits) (by decide +kernel)) ⟨rfl, Or.inr (Or.inl rfl), rfl, trivial⟩ (pi_tup (pe_ix ix_tup (pe_ix ix_seq (pv 0) (pe_ix ix_tup (pv 5) pe_int (fun _ _ => rfl)) (fun _ _ => rfl)) pe_int (fun _ _ => rfl)))
            (fun cl s H fp => pg_name (i := 0) ndOD rfl (Or.inl rfl)) (fun cl s H fp => pts_one (pt_val (pe_bmB PySem.F.plainAttrs_str PySem.F.slot_str_startswith PySem.F.type_str_startswith mt_startswith (pe_ix ix_tupB (pv 0) pe_int (fun _ _ => rfl)) (pa_cons (pe_ix ix_tupB (pv 1) pe_int (fun _ _ => rfl)) pa_nil)))) (fun cl s H fp => pv 0)) (pe_lst pa_nil) (nomark _)) (pss_one (ps_ret pe_bl)) pss_nil)))))))
      (pss_one (ps_ret pe_bl)), ?_⟩
    dsimp only [cxOf, Cx.nox, Cx.wish]
    have hl : xs.length = b.length := by have := R.length; simpa using this
    refine for_seq (a := a) (xs := xs) hS (fun R q => ⟨_, rfl, q⟩) (fun R q => ⟨_, rfl, q⟩) (fun i σ H2 => ∃ u1 u2 u3 u4 u5 u6, σ = [some (.ref a), u1, u2, u3, u4, u5, u6] ∧ Same H H2 ∧ ∀ j, j < i → fitT b (b.getD j tg0) = true) ⟨none, none, none, none, none, none, rfl, Same.refl H, fun j hj => absurd hj (Nat.not_lt_zero j)⟩ (fun i σ H' ⟨_, _, _, _, _, _, _, s, _⟩ => s) ?_ ?_
    · rintro i y σ H2 hi ⟨u1, u2, u3, u4, u5, u6, rfl, s2, hP⟩
      have hil : i < b.length := by have := (List.getElem?_eq_some_iff.mp hi).1; omega
      have ey : y = xs.getD i .non := by rw [List.getD_eq_getElem?_getD, hi]; rfl
      have tok : TgOk b.length (b.getD i tg0) := hok _ (getD_mem _ hil)
      obtain ⟨c, d, ys, e, hcz, hdz, hc, hd, hyl, Ry⟩ := rep_tongue ((reps_tongue (b := b) (i := i) R hil).mono s2.x)
      rw [ey, e]
      have hyl : ys.length = (b.getD i tg0).2.length := hyl
      have few1 := tok.2.1
      have no : ∀ H', Same H H' → fitT b (b.getD i tg0) = false → Q (.bl false) H' := fun H' s' hf => by
        have := all_no b tg0 (fitT b) hil hf
        have q := k H' s'
        unfold fitsB at q
        rw [this] at q
        exact q
      refine ⟨c, _, rfl, SqT.of hc, rfl, _, _, rfl, _, _, rfl, rfl, ?_⟩
      refine D_hide fun D1 hD1 hR1 _ _ => ?_
      have no := fun H' a b => hR1 _ _ (no H' a b)
      refine seq_hide fun U hU => ?_
      refine for_seq (a := a) (xs := xs) (hS.same s2) (fun R q => ⟨_, rfl, q⟩) (fun R q => ⟨_, rfl, q⟩) (fun j σ H3 => ∃ u3 u4 u6, σ = [some (.ref a), some (.str (b.getD i tg0).1), some (.ref d), u3, u4, u5, u6] ∧ Same H2 H3 ∧ ∀ l, l < j → fit1 (b.getD i tg0) (b.getD l tg0) = true) ⟨u3, u4, u6, rfl, Same.refl _, fun j hj => absurd hj (Nat.not_lt_zero j)⟩ (fun i σ H' ⟨_, _, _, _, s, _⟩ => s) ?_ ?_
      · rintro j y2 σ H3 hj ⟨v3, v4, v6, rfl, s3, hP1⟩
        have hjl : j < b.length := by have := (List.getElem?_eq_some_iff.mp hj).1; omega
        have ey2 : y2 = xs.getD j .non := by rw [List.getD_eq_getElem?_getD, hj]; rfl
        have tok2 : TgOk b.length (b.getD j tg0) := hok _ (getD_mem _ hjl)
        have few2 := tok2.2.1
        obtain ⟨c2, d2, zs, e2, hc2z, hd2z, hc2, hd2, hzl, Rz⟩ := rep_tongue ((reps_tongue (b := b) (i := j) R hjl).mono (s2.trans s3).x)
        rw [ey2, e2]
        have hzl : zs.length = (b.getD j tg0).2.length := hzl
        refine ⟨c2, _, rfl, SqT.of hc2, rfl, _, _, rfl, _, _, rfl, rfl, ?_⟩
        refine D_hide fun D2 hD2 hR2 _ _ => ?_
        have no := fun H' a b => hR2 _ _ (no H' a b)
        refine seq_hide fun U2 hU2 => ?_
        refine ⟨_, rfl, d2, rfl, ⟨_, SqT.of hd2⟩, fun p np => ?_⟩
        have hdp : d2 ≠ p := ne_of_none hd2 np
        have nx : ∀ H', Same H3 H' → fit1 (b.getD i tg0) (b.getD j tg0) = true → ∃ u3 u4 u6, [some (V.ref a), some (V.str (b.getD i tg0).1), some (V.ref d), some (.str (b.getD j tg0).1), some (.ref d2), u5, some (.ref p)] = [some (V.ref a), some (V.str (b.getD i tg0).1), some (V.ref d), u3, u4, u5, u6] ∧ Same H2 H' ∧ ∀ l, l < j + 1 → fit1 (b.getD i tg0) (b.getD l tg0) = true := fun H' s' hf => ⟨_, _, _, rfl, s3.trans s', fun l hl => by
          rcases Nat.lt_succ_iff_lt_or_eq.mp hl with h | h
          · exact hP1 l h
          · rw [h]; exact hf⟩
        refine loop_new (fun l => if inEsc (b.getD i tg0).1 ((b.getD j tg0).2.getD l dr0) then some (zs.getD l .non) else none) (fun σ => ∃ v, σ = [v, some (.str (b.getD i tg0).1)]) ⟨none, rfl⟩ np (by omega) (itok_tup (xs := zs) (by rw [upd_ne hdp]; exact hd2) hdp) (fun l σ H4 C hl' ⟨v, hv⟩ hS4 hC => ?_) (fun σ H4 s4 hH4 => ?_)
        · subst hv
          have hll : l < (b.getD j tg0).2.length := by omega
          obtain ⟨q, e3, hqz, hq⟩ := rep_door ((reps_door (ds := (b.getD j tg0).2) (i := l) Rz hll).mono hS4.x)
          have dok := tok2.2.2 _ (getD_mem dr0 hll)
          have l1 := markS_len dok.1
          have l2 := markS_len dok.2.2
          have big : (1000 : Nat) ≤ sizeLine := by rw [sizeLine_eq]; decide
          have lb : (Str.ofString " ").length = 1 := by decide +kernel
          have hC' := hC [some (.ref q), some (.str (b.getD i tg0).1)] H4 ⟨_, rfl⟩ (Same.refl _)
          rw [e3]
          refine ⟨_, rfl, _, rfl, q, _, 0, _, rfl, rfl, SqT.of hq, atI_nat (j := 0) rfl, _, _, rfl, rfl, ?_, _, rfl, q, _, 2, _, rfl, rfl, SqT.of hq, atI_nat (j := 2) rfl, _, _, rfl, rfl, ?_, _, _, rfl, rfl, _, rfl, ?_⟩
          · rw [lb]
            show ((b.getD j tg0).2.getD l dr0).1.length + 1 ≤ _
            omega
          · rw [str_len_append, lb]
            show ((b.getD j tg0).2.getD l dr0).1.length + 1 + ((b.getD j tg0).2.getD l dr0).2.2.length ≤ _
            omega
          · show if inEsc (b.getD i tg0).1 ((b.getD j tg0).2.getD l dr0) = true then _ else _
            cases g : inEsc (b.getD i tg0).1 ((b.getD j tg0).2.getD l dr0) with
            | true =>
              rw [g, if_pos rfl, e3] at hC'
              exact iteT ⟨_, rfl, hC'⟩
            | false =>
              rw [g, if_neg (by simp)] at hC'
              exact iteF hC'
        · refine hU2 _ _ ⟨_, rfl, rfl, _, rfl, ?_⟩
          refine ite2 (fun g1 => ?_) (fun g1 => ?_)
          · refine ⟨_, rfl, Nat.zero_le _, fun q nq => ?_⟩
            have hpq : p ≠ q := ne_of_none hH4 nq
            refine ⟨p, q, _, rfl, rfl, by rw [upd_ne hpq]; exact hH4, upd_same, _, rfl, ?_⟩
            have e5 := flt_empty (b.getD j tg0).2 dr0 (inEsc (b.getD i tg0).1) (fun l => zs.getD l .non) hzl
            rw [e5, Bool.not_not]
            cases g2 : (b.getD j tg0).2.any (inEsc (b.getD i tg0).1) with
            | true =>
              refine iteT (no _ (((s2.trans s3).trans s4).trans (Same.new nq)) ?_)
              have f1 : fit1 (b.getD i tg0) (b.getD j tg0) = false := by
                unfold fit1
                rw [g2, g1]
                rfl
              unfold fitT
              rw [all_no b tg0 (fit1 (b.getD i tg0)) hjl f1, Bool.false_and, Bool.false_and]
            | false =>
              refine iteF (hD2 _ _ (nx _ (s4.trans (Same.new nq)) ?_))
              unfold fit1
              rw [g2, Bool.and_false]
              rfl
          · refine iteF (hD2 _ _ (nx _ s4 ?_))
            have g1' : (!decide (V.str (b.getD i tg0).1 = V.str (Str.ofString ""))) = false := by simpa using g1
            unfold fit1
            rw [g1', Bool.false_and]
            rfl
      · rintro σ H3 ⟨v3, v4, v6, rfl, s3, hP1⟩
        have f1 : b.all (fit1 (b.getD i tg0)) = true := all_of b tg0 _ fun j hj => hP1 j (by omega)
        refine hU _ _ (seq_hide fun U hU => ?_)
        refine ⟨_, rfl, d, rfl, ⟨_, SqT.of (s3 _ _ hd)⟩, fun p np => ?_⟩
        have hdp : d ≠ p := ne_of_none (s3 _ _ hd) np
        refine loop_map (fun l => .str ((b.getD i tg0).2.getD l dr0).1) (fun σ => ∃ v, σ = [v]) ⟨none, rfl⟩ np (by omega) (itok_tup (xs := ys) (by rw [upd_ne hdp]; exact s3 _ _ hd) hdp) (fun l σ H4 C hl' ⟨v, hv⟩ hS4 hC => ?_) (fun σ H4 s4 hH4 => ?_)
        · subst hv
          obtain ⟨q, e3, hqz, hq⟩ := rep_door ((reps_door (ds := (b.getD i tg0).2) (i := l) Ry (by omega)).mono (s3.trans hS4).x)
          rw [e3]
          exact ⟨_, rfl, q, _, 0, _, rfl, rfl, SqT.of hq, atI_nat (j := 0) rfl, hC _ H4 ⟨_, rfl⟩ (Same.refl _)⟩
        · have hO : H4 p = some (.lst ((opensOf (b.getD i tg0).2).map V.str)) := by
            rw [hH4, hyl]
            unfold opensOf
            rw [List.map_map]
            exact congrArg (fun x => some (HO.lst x)) (range_map (b.getD i tg0).2 dr0 fun d => V.str d.1)
          refine ⟨p, opensOf (b.getD i tg0).2, rfl, SqL.of hO, (by unfold scanBound opensOf; rw [List.length_map]; omega), fun q nq => ?_⟩
          have s5 := Same.new (o := setL P w q (opensOf (b.getD i tg0).2)) nq
          have s25 : Same H2 _ := (s3.trans s4).trans s5
          refine ⟨q, _, rfl, upd_same, _, rfl, d, ys, rfl, .inr (SqT.of (s25 _ _ hd)), rfl, _, rfl, ?_⟩
          have e2 : (!decide (V.int ((dd (opensOf (b.getD i tg0).2)).length : Int) = V.int (ys.length : Int))) = !decide (opensOf (b.getD i tg0).2).Nodup := by
            congr 1
            rw [decide_eq_decide, ← dd_all]
            have : (opensOf (b.getD i tg0).2).length = (b.getD i tg0).2.length := by simp [opensOf]
            rw [this, ← hyl]
            simp
            omega
          rw [e2]
          cases g3 : decide (opensOf (b.getD i tg0).2).Nodup with
          | false =>
            refine iteT (no _ (s2.trans s25) ?_)
            unfold fitT
            rw [g3, Bool.and_false, Bool.false_and]
          | true =>
            refine iteF (hU _ _ ?_)
            refine ⟨_, rfl, d, rfl, ⟨_, SqT.of (s25 _ _ hd)⟩, for_tup (K := K) (a := d) (xs := ys) (fun l σ H6 => ∃ u3 u4 u5 u6, σ = [some (.ref a), some (.str (b.getD i tg0).1), some (.ref d), u3, u4, u5, u6] ∧ Same H2 H6 ∧ ∀ m, m < l → fit3 b ((b.getD i tg0).2.getD m dr0) = true) ⟨_, _, _, _, rfl, s25, fun j hj => absurd hj (Nat.not_lt_zero j)⟩ (fun l σ H6 _ ⟨_, _, _, _, _, s, _⟩ => SqT.of (s _ _ hd)) ?_ ?_⟩
            · rintro l y3 σ H6 hl' ⟨w3, w4, w5, w6, rfl, s6, hP3⟩
              have hll : l < (b.getD i tg0).2.length := by have := (List.getElem?_eq_some_iff.mp hl').1; omega
              have ey3 : y3 = ys.getD l .non := by rw [List.getD_eq_getElem?_getD, hl']; rfl
              obtain ⟨q2, e3, hq2z, hq2⟩ := rep_door ((reps_door (ds := (b.getD i tg0).2) (i := l) Ry hll).mono s6.x)
              rw [ey3, e3]
              have dok := tok.2.2 _ (getD_mem dr0 hll)
              generalize hdr : (b.getD i tg0).2.getD l dr0 = dr at *
              obtain ⟨hn1, hn2⟩ := dok.2.1
              obtain ⟨n, hn⟩ : ∃ n : Nat, dr.2.1 = (n : Int) := ⟨dr.2.1.toNat, by omega⟩
              have hnl : n < b.length := by omega
              have few4 : (b.getD n tg0).2.length ≤ 6 := (hok _ (getD_mem tg0 hnl)).2.1
              obtain ⟨c4, d4, ws, e4, hc4z, hd4z, hc4, hd4, hwl, Rw⟩ := rep_tongue ((reps_tongue (b := b) (i := n) R hnl).mono (s2.trans s6).x)
              have hwl : ws.length = (b.getD n tg0).2.length := hwl
              have ex : xs[n]? = some (.ref c4) := by
                have h1 : n < xs.length := by omega
                have h2 : xs.getD n .non = xs[n] := by simp [h1]
                rw [List.getElem?_eq_getElem h1, ← h2, e4]
              rw [hn] at hq2
              refine ⟨_, rfl, _, rfl, q2, _, 1, _, rfl, rfl, SqT.of hq2, atI_nat (j := 1) rfl, ix_of (hS.same (s2.trans s6)) ex ?_⟩
              refine ⟨c4, _, 1, _, rfl, rfl, SqT.of hc4, atI_nat (j := 1) rfl, d4, rfl, ⟨_, SqT.of hd4⟩, fun p2 np2 => ?_⟩
              have hdp2 : d4 ≠ p2 := ne_of_none hd4 np2
              refine loop_new (fun m => if stAt ((b.getD n tg0).2.getD m dr0).1 dr.2.2 0 then some (ws.getD m .non) else none) (fun σ => ∃ v, σ = [v, some (.ref q2)]) ⟨none, rfl⟩ np2 (by omega) (itok_tup (xs := ws) (by rw [upd_ne hdp2]; exact hd4) hdp2) (fun m σ H7 C hm ⟨v, hv⟩ hS7 hC => ?_) (fun σ H7 s7 hH7 => ?_)
              · subst hv
                obtain ⟨q3, e5, hq3z, hq3⟩ := rep_door ((reps_door (ds := (b.getD n tg0).2) (i := m) Rw (by omega)).mono hS7.x)
                have hC' := hC [some (.ref q3), some (.ref q2)] H7 ⟨_, rfl⟩ (Same.refl _)
                rw [e5]
                refine ⟨_, rfl, q3, _, 0, _, rfl, rfl, SqT.of hq3, atI_nat (j := 0) rfl, rfl, _, rfl, q2, _, 2, _, rfl, rfl, SqT.of (hS7 _ _ hq2), atI_nat (j := 2) rfl, _, _, rfl, rfl, _, rfl, ?_⟩
                cases g : stAt ((b.getD n tg0).2.getD m dr0).1 dr.2.2 0 with
                | true =>
                  rw [g, if_pos rfl, e5] at hC'
                  exact iteT ⟨_, rfl, hC'⟩
                | false =>
                  rw [g, if_neg (by simp)] at hC'
                  exact iteF hC'
              · refine ⟨Nat.zero_le _, fun q nq => ?_⟩
                have hpq : p2 ≠ q := ne_of_none hH7 nq
                refine ⟨p2, q, _, rfl, rfl, by rw [upd_ne hpq]; exact hH7, upd_same, _, rfl, ?_⟩
                have e5 := flt_empty (b.getD n tg0).2 dr0 (fun o => stAt o.1 dr.2.2 0) (fun m => ws.getD m .non) hwl
                rw [e5, Bool.not_not]
                have ef : fit3 b dr = !((b.getD n tg0).2.any fun o => stAt o.1 dr.2.2 0) := by
                  unfold fit3
                  rw [hn]
                  rfl
                cases g2 : (b.getD n tg0).2.any fun o => stAt o.1 dr.2.2 0 with
                | true =>
                  refine iteT (no _ ((s2.trans s6).trans (s7.trans (Same.new nq))) ?_)
                  unfold fitT
                  rw [all_no (b.getD i tg0).2 dr0 (fit3 b) hll (by rw [hdr, ef, g2]; rfl), Bool.and_false]
                | false =>
                  refine iteF ⟨_, _, _, _, rfl, s6.trans (s7.trans (Same.new nq)), fun m hm => ?_⟩
                  rcases Nat.lt_succ_iff_lt_or_eq.mp hm with h | h
                  · exact hP3 m h
                  · rw [h, hdr, ef, g2]; rfl
            · rintro σ H6 ⟨w3, w4, w5, w6, rfl, s6, hP3⟩
              refine hD1 _ _ ⟨_, _, _, _, _, _, rfl, s2.trans s6, fun j hj => ?_⟩
              rcases Nat.lt_succ_iff_lt_or_eq.mp hj with h | h
              · exact hP j h
              · rw [h]
                unfold fitT
                rw [f1, g3, all_of (b.getD i tg0).2 dr0 (fit3 b) fun m hm => hP3 m (by omega)]
                rfl
    · rintro σ H2 ⟨u1, u2, u3, u4, u5, u6, rfl, s2, hP⟩
      have q := k H2 s2
      unfold fitsB at q
      rw [all_of b tg0 (fitT b) fun j hj => hP j (by omega)] at q
      exact q
end
end T1
namespace T1
open PySem L2
section
variable {P : Program} {w : World} {K : PySem.W.Frag} {mg : Str → Option Value} {base : Heap}
theorem scBookL : FnScope ["bag", "signs", "escapes", "many", "book", "turn", "at", "door", "more"] ["bag"] (defScope lBook) := ⟨rfl, rfl, rfl, by decide +kernel, rfl, by decide +kernel, by decide +kernel⟩
set_option maxHeartbeats 1000000 in
theorem ok_lbook {f f1 f2 f3 : Addr} {fd fd1 fd2 fd3 : FuncData} (F : Fun K "_law_book" "_law_book" lBook f fd) (T : TxtB mg) (T2 : Txt2 mg)
    (k1 : PySem.W.keepIn K (.ref f1) = true) (b1 : Binds K fd1 ["bag", "many"] []) (m1 : mg "_law_take" = some (.ref f1)) (G1 : FnOk P w K mg base CX0 1 f1 fd1 ["bag", "many"] spTake)
    (k2 : PySem.W.keepIn K (.ref f2) = true) (b2 : Binds K fd2 ["bag", "signs"] []) (m2 : mg "_law_mark" = some (.ref f2)) (G2 : FnOk P w K mg base CX0 2 f2 fd2 ["bag", "signs"] spMk)
    (k3 : PySem.W.keepIn K (.ref f3) = true) (b3 : Binds K fd3 ["book"] []) (m3 : mg "_law_fits_book" = some (.ref f3)) (G3 : FnOk P w K mg base CX0 1 f3 fd3 ["book"] spFits) : FnOk P w K mg base CX0 3 f fd ["bag"] spBook := by
  refine F.ok scBookL (fun vs H Q E h => ?_) (fun cdv A outer s H vs Q E hr h => ?_)
  · obtain ⟨z, rfl, _⟩ := h
    rfl
  · obtain ⟨z, rfl, hB, k⟩ := h
    have nd := scBookL.nd
    have hr1 : Room 1 _ := hr.mono (by decide)
    refine ⟨_, pss_cons (ps_set (i := 1) nd rfl (Or.inl rfl) (pe_ix ix_list (pe_lst (pa_cons pe_str (pa_cons pe_str (pa_cons pe_str (pa_cons pe_str pa_nil))))) (pe_call G1 hr1 rfl m1 k1 b1 .nil pass0 (pa_cons (pv 0) (pa_cons pe_int pa_nil))) (fun _ _ => rfl)))
      (pss_cons (ps_set (i := 2) nd rfl (Or.inr rfl) (pe_ix ix_list (pe_lst (pa_cons pe_str (pa_cons pe_str (pa_cons pe_str (pa_cons pe_str pa_nil))))) (pe_call G1 hr1 rfl m1 k1 b1 .nil pass0 (pa_cons (pv 0) (pa_cons pe_int pa_nil))) (fun _ _ => rfl)))
      (pss_cons (ps_set (i := 3) nd rfl (Or.inl rfl) (pe_op op_add pe_int (pe_call G1 hr1 rfl m1 k1 b1 .nil pass0 (pa_cons (pv 0) (pa_cons (pe_ix ix_list (pe_lst (pa_cons pe_int (pa_cons pe_int (pa_cons pe_int pa_nil)))) (pe_call G1 hr1 rfl m1 k1 b1 .nil pass0 (pa_cons (pv 0) (pa_cons pe_int pa_nil))) (fun _ _ => rfl)) pa_nil)))))
      (pss_cons (ps_setcomp1 (i := 4) (N' := ["tongue", "bag", "escapes"]) (js := [none, some 0, some 2]) rfl rfl nd rfl (Or.inl rfl) (blk_of (defScope lBook) (by decide +kernel)) ⟨rfl, Or.inr (Or.inl rfl), rfl, rfl, Or.inr (Or.inl rfl), rfl, trivial⟩ (pi_range1 rfl T.range (pa_cons (pv 3) pa_nil))
          (fun cl s H fp => pg_name (i := 0) ndTBE rfl (Or.inl rfl)) (fun cl s H fp => pts_nil)
          (fun cl s H fp => pe_tup (pa_cons (pe_ix ix_listB (pe_lst (pa_cons (pv 2) (pa_cons pe_str (pa_cons pe_str pa_nil)))) (pe_call G1 hr1 rfl m1 k1 b1 .nil pass0 (pa_cons (pv 1) (pa_cons pe_int pa_nil))) (fun _ _ => rfl)) (pa_cons (pe_tup pa_nil) pa_nil))))
      (pss_cons (ps_for PassesOwn.never rfl (pi_range1 rfl T.range (pa_cons (pe_op op_add pe_int (pe_call G1 hr1 rfl m1 k1 b1 .nil pass0 (pa_cons (pv 0) (pa_cons (pe_op op_mul pe_int (pv 3)) pa_nil)))) pa_nil)) (pg_name (i := 5) nd rfl (Or.inl rfl))
        (pss_cons (ps_set (i := 6) nd rfl (Or.inl rfl) (pe_ix ix_list (pe_lst (pa_cons pe_int (pa_cons (pe_call G1 hr1 rfl m1 k1 b1 .nil pass0 (pa_cons (pv 0) (pa_cons (pv 3) pa_nil))) pa_nil))) (pe_call G1 hr1 rfl m1 k1 b1 .nil pass0 (pa_cons (pv 0) (pa_cons pe_int pa_nil))) (fun _ _ => rfl)))
        (pss_cons (ps_set (i := 7) nd rfl (Or.inl rfl) (pe_tup (pa_cons (pe_call G2 hr rfl m2 k2 b2 .nil pass0 (pa_cons (pv 0) (pa_cons (pv 1) pa_nil))) (pa_cons (pe_call G1 hr1 rfl m1 k1 b1 .nil pass0 (pa_cons (pv 0) (pa_cons (pv 3) pa_nil))) (pa_cons (pe_call G2 hr rfl m2 k2 b2 .nil pass0 (pa_cons (pv 0) (pa_cons (pv 1) pa_nil))) pa_nil)))))
        (pss_cons (ps_set (i := 8) nd rfl (Or.inl rfl) (pe_callTy call_list_of (by rfl) T2.list b_list (pa_cons (pv 4) pa_nil)))
        (pss_cons (ps_asg (pe_tup (pa_cons (pe_ix ix_tup (pe_ix ix_list (pv 4) (pv 6) (fun _ _ => rfl)) pe_int (fun _ _ => rfl)) (pa_cons (pe_op op_catX (pe_ix ix_tup (pe_ix ix_list (pv 4) (pv 6) (fun _ _ => rfl)) pe_int (fun _ _ => rfl)) (pe_tup (pa_cons (pv 7) pa_nil))) pa_nil))) (pg_sub (pv 8) (pv 6) set_list))
        (pss_one (ps_if (PW.pt (pw_and (pt_cmpR op_lt (pe_callB call_len_seq (by rfl) T.len b_len (pa_cons (pe_ix ix_tup (pe_ix ix_list (pv 4) (pv 6) (fun _ _ => rfl)) pe_int (fun _ _ => rfl)) pa_nil)) pe_int (nomark _)) (pw_and1 (pt_val (pe_call G3 hr1 rfl m3 k3 b3 .nil pass0 (pa_cons (pv 8) pa_nil))))))
          (pss_one (ps_set (i := 4) nd rfl (Or.inl rfl) (pv 8))) pss_nil)))))))
      (pss_one (ps_ret (pe_callTy call_tuple_of (by rfl) T.tuple b_tuple (pa_cons (pv 4) pa_nil)))))))), ?_⟩
    dsimp only [cxOf, Cx.nox, Cx.wish]
    refine seq_hide fun U hU => ?_
    have small : (1000 : Nat) ≤ sizeLine := by rw [sizeLine_eq]; decide
    have A0 := Aft.refl hB
    refine ⟨by show (4 : Nat) ≤ _; omega, fun p1 np1 => ⟨_, rfl, z, 4, rfl, (A0.new np1).2, by decide, by decide, fun r1 H1 hr1' a1 => ?_⟩⟩
    have A1 : Aft z H H1 := (A0.new np1).trans a1
    have hp1 := a1.1 p1 _ (hB.ne np1) upd_same
    obtain ⟨v1, hv1, hm1⟩ := pickH hp1 (r := r1) (by show r1 < 4; omega)
    obtain ⟨x, ex, hx1, hx2, hx3⟩ : ∃ x, v1 = .str x ∧ 1 ≤ x.length ∧ x.length ≤ 100 ∧ signsOk x := by
      simp only [List.mem_cons, List.not_mem_nil, or_false] at hm1
      rcases hm1 with rfl | rfl | rfl | rfl <;> exact ⟨_, rfl, by decide +kernel, by decide +kernel, by unfold signsOk; decide +kernel⟩
    subst ex
    refine ⟨p1, _, r1, _, rfl, rfl, SqL.of hp1, atI_nat hv1, hU _ _ (seq_hide fun U hU => ?_)⟩
    refine ⟨by show (4 : Nat) ≤ _; omega, fun p2 np2 => ⟨_, rfl, z, 4, rfl, (A1.new np2).2, by decide, by decide, fun r2 H2 hr2' a2 => ?_⟩⟩
    have A2 : Aft z H H2 := (A1.new np2).trans a2
    have hp2 := a2.1 p2 _ (A1.2.ne np2) upd_same
    obtain ⟨v2, hv2, hm2⟩ := pickH hp2 (r := r2) (by show r2 < 4; omega)
    obtain ⟨e, ee, he1⟩ : ∃ x, v2 = .str x ∧ escD (.str x) = true := by
      simp only [List.mem_cons, List.not_mem_nil, or_false] at hm2
      rcases hm2 with rfl | rfl | rfl | rfl <;> exact ⟨_, rfl, by decide +kernel⟩
    subst ee
    refine ⟨p2, _, r2, _, rfl, rfl, SqL.of hp2, atI_nat hv2, hU _ _ (seq_hide fun U hU => ?_)⟩
    refine ⟨_, rfl, by show (3 : Nat) ≤ _; omega, fun p3 np3 => ⟨_, rfl, z, 3, rfl, (A2.new np3).2, by decide, by decide, fun r3 H3 hr3 a3 => ?_⟩⟩
    have A3 : Aft z H H3 := (A2.new np3).trans a3
    have hp3 := a3.1 p3 _ (A2.2.ne np3) upd_same
    obtain ⟨v3, hv3, hm3⟩ := pickH hp3 (r := r3) (by show r3 < 3; omega)
    obtain ⟨n3, en, hn1, hn2⟩ : ∃ n : Int, v3 = .int n ∧ 0 < n ∧ n ≤ 6 := by
      simp only [List.mem_cons, List.not_mem_nil, or_false] at hm3
      rcases hm3 with rfl | rfl | rfl <;> exact ⟨_, rfl, by decide, by decide⟩
    subst en
    refine ⟨p3, _, r3, _, rfl, rfl, SqL.of hp3, atI_nat hv3, z, n3, rfl, A3.2, hn1, by omega, fun r4 H4 hr4 a4 => ?_⟩
    have A4 : Aft z H H4 := A3.trans a4
    refine ⟨1, r4, rfl, rfl, hU _ _ (seq_hide fun U hU => ?_)⟩
    refine ⟨_, rfl, 1 + r4, rfl, by omega, by omega, fun p np => ?_⟩
    have enat : (1 + (r4 : Int)).toNat = 1 + r4 := by omega
    rw [enat]
    have hpz := A4.2.ne np
    have hpH := A4.none np
    refine loop_range (fun i σ H5 => ∃ u, σ = [u, some (.ref z), some (.str e)] ∧ Aft z H H5 ∧ ∃ b, LBk z p b H5 ∧ b.length = i ∧ ∀ t ∈ b, t.2 = [] ∧ escD (.str t.1) = true) ⟨none, rfl, A4.new np, [], ⟨hpz, [], upd_same, .nil⟩, rfl, by simp⟩ ?_ ?_
    · rintro i σ H5 hi ⟨u, rfl, A5, b, L5, hbl, hb⟩
      refine ⟨_, rfl, by show (3 : Nat) ≤ _; omega, fun l nl => ⟨_, rfl, z, 3, rfl, (A5.new nl).2, by decide, by decide, fun r H6 hr6 a6 => ?_⟩⟩
      have A56 : Aft z H5 H6 := ((Aft.refl A5.2).new nl).trans a6
      have hl6 := a6.1 l _ (A5.2.ne nl) upd_same
      obtain ⟨v6, hv6, hm6⟩ := pickH hl6 (r := r) (by show r < 3; omega)
      obtain ⟨y, ey, hy1⟩ : ∃ x, v6 = .str x ∧ escD (.str x) = true := by
        simp only [List.mem_cons, List.not_mem_nil, or_false] at hm6
        rcases hm6 with rfl | rfl | rfl
        · exact ⟨_, rfl, he1⟩
        · exact ⟨_, rfl, by decide +kernel⟩
        · exact ⟨_, rfl, by decide +kernel⟩
      subst ey
      have hyl : y.length ≤ 1 := by unfold escD at hy1; simp at hy1; exact hy1.1
      refine ⟨l, _, r, _, rfl, rfl, SqL.of hl6, atI_nat hv6, Nat.zero_le _, fun q1 nq1 => ⟨by show (2 : Nat) ≤ _; omega, fun q2 nq2 => ?_⟩⟩
      have A58 := (A56.new (o := .tup []) nq1).new (o := .tup [.str y, .ref q1]) nq2
      have h8q2 : upd (upd H6 q1 (.tup [])) q2 (.tup [.str y, .ref q1]) q2 = some (.tup [.str y, .ref q1]) := upd_same
      have h8q1 : upd (upd H6 q1 (.tup [])) q2 (.tup [.str y, .ref q1]) q1 = some (.tup []) := Same.new nq2 _ _ upd_same
      generalize upd (upd H6 q1 (.tup [])) q2 (.tup [.str y, .ref q1]) = H8 at A58 h8q2 h8q1
      obtain ⟨_, vs, hp8, r8⟩ := L5.aft A58.1
      have hvl : vs.length = b.length := by have := r8.length; simpa using this
      refine ⟨vs, hp8, by omega, ⟨_, rfl, (A5.trans A58).upd hpH hpz, b ++ [(y, [])], ⟨hpz, vs ++ [.ref q2], upd_same, ?_⟩, by simp [hbl], fun t ht => ?_⟩⟩
      · rw [mask_upd, List.map_append]
        have n2 : q2 ≠ p := ne_of h8q2 hp8 (by intro z; cases z)
        have n1 : q1 ≠ p := ne_of h8q1 hp8 (by intro z; cases z)
        exact r8.append (.cons (.tup (by rw [mask_ne n2]; exact h8q2) (A58.2.neT h8q2) (.cons (.str y (by omega)) (.cons (.tup (by rw [mask_ne n1]; exact h8q1) (A58.2.neT h8q1) .nil) .nil))) .nil)
      · rcases List.mem_append.mp ht with ht | ht
        · exact hb t ht
        · have : t = (y, []) := by simpa using ht
          subst this
          exact ⟨rfl, hy1⟩
    · rintro σ H5 ⟨u, rfl, A5, b, L5, hbl, hb⟩
      refine hU _ _ (seq_hide fun U hU => ?_)
      refine ⟨_, rfl, _, rfl, 3, 1 + r4, rfl, rfl, .inl ⟨by decide, by decide⟩, z, 3 * (1 + r4), rfl, A5.2, by omega, by omega, fun r5 H6 hr5 a6 => ?_⟩
      refine ⟨2, r5, rfl, rfl, 2 + r5, rfl, by omega, by omega, ?_⟩
      have hok0 : ∀ t ∈ b, TgOk b.length t := fun t ht => by
        obtain ⟨h1, h2⟩ := hb t ht
        refine ⟨h2, by rw [h1]; decide, fun d hd => ?_⟩
        rw [h1] at hd
        cases hd
      refine for_range (fun i σ H7 => ∃ a b u5 u6 u7 u8, σ = [some (.ref z), some (.str x), some (.str e), some (.int (1 + r4)), some (.ref a), u5, u6, u7, u8] ∧ Aft z H H7 ∧ LBk z a b H7 ∧ b.length = 1 + r4 ∧ (∀ t ∈ b, TgOk b.length t) ∧ fitsB b = true)
        ⟨p, b, none, none, none, none, rfl, A5.trans a6, L5.aft a6.1, hbl, hok0, fits_empty fun t ht => (hb t ht).1⟩ ?_ ?_
      · clear hok0 hb hbl L5 hr5
        rintro i σ H7 hi ⟨a, b, u5, u6, u7, u8, rfl, A7, L7, hbl, hok, hfit⟩
        show (tSeq _ _) _ _ _
        refine D_hide fun D1 hD1 _ _ _ => seq_hide fun U1 hV => ?_
        refine ⟨_, rfl, _, rfl, z, 1 + r4, rfl, A7.2, by omega, by omega, fun r6 H8 hr6 a8 => ?_⟩
        refine ⟨by show (2 : Nat) ≤ _; omega, fun p4 np4 => ⟨_, rfl, z, 2, rfl, (a8.new np4).2, by decide, by decide, fun r7 H9 hr7 a9 => ?_⟩⟩
        have A9 : Aft z H7 H9 := (a8.new np4).trans a9
        have hp9 := a9.1 p4 _ (a8.2.ne np4) upd_same
        obtain ⟨at', hat, hatm⟩ : ∃ at' : Nat, ([V.int 0, V.int r6] : List V)[r7]? = some (.int at') ∧ at' < 1 + r4 := by
          match r7, hr7 with
          | 0, _ => exact ⟨0, rfl, by omega⟩
          | 1, _ => exact ⟨r6, rfl, by omega⟩
          | m + 2, h => omega
        refine ⟨p4, _, r7, _, rfl, rfl, SqL.of hp9, atI_nat hat, hV _ _ (seq_hide fun U1 hV => ?_)⟩
        refine ⟨_, rfl, _, rfl, z, x, rfl, A9.2, hx1, hx2, hx3, fun m1 H10 hm1 a10 => ⟨_, rfl, _, rfl, z, 1 + r4, rfl, a10.2, by omega, by omega, fun r8 H11 hr8 a11 => ⟨_, rfl, _, rfl, z, x, rfl, a11.2, hx1, hx2, hx3, fun m2 H12 hm2 a12 => ⟨by show (3 : Nat) ≤ _; omega, fun q0 nq0 => hV _ _ (seq_hide fun U1 hV => ?_)⟩⟩⟩⟩
        have A13 := (((A9.trans a10).trans a11).trans a12).new (o := .tup [.str m1, .int r8, .str m2]) nq0
        have hq0 : upd H12 q0 (.tup [.str m1, .int r8, .str m2]) q0 = some (.tup [.str m1, .int r8, .str m2]) := upd_same
        generalize upd H12 q0 (.tup [.str m1, .int r8, .str m2]) = H13 at A13 hq0
        obtain ⟨haz, vs, ha13, R13⟩ := L7.aft A13.1
        have hvl : vs.length = b.length := by have := R13.length; simpa using this
        refine ⟨_, rfl, a, vs, rfl, .inl (SqL.of ha13), fun l nl => hV _ _ (seq_hide fun U1 hV => ?_)⟩
        have hatb : at' < b.length := by omega
        have htok := hok _ (getD_mem tg0 hatb)
        obtain ⟨c, d, ys, ec, hcz, hdz, hc, hd, hyl, Ry⟩ := rep_tongue (reps_tongue (b := b) (i := at') R13 hatb)
        have hyl : ys.length = (b.getD at' tg0).2.length := hyl
        have exv : vs[at']? = some (.ref c) := by
          have h1 : at' < vs.length := by omega
          have h2 : vs.getD at' .non = vs[at'] := by simp [h1]
          rw [List.getElem?_eq_getElem h1, ← h2, ec]
        generalize hT : b.getD at' tg0 = tt at *
        have hc13 := (mask_some hc).2
        have hd13 := (mask_some hd).2
        have s14 : Same H13 (upd H13 l (.lst vs)) := Same.new nl
        have few := htok.2.1
        have el : tt.1.length ≤ 1 := by have := htok.1; unfold escD at this; simp at this; exact this.1
        refine ⟨_, rfl, _, rfl, a, vs, at', _, rfl, rfl, SqL.of (s14 _ _ ha13), atI_nat exv, c, _, 0, _, rfl, rfl, SqT.of (s14 _ _ hc13), atI_nat (j := 0) rfl, _, rfl, _, rfl, a, vs, at', _, rfl, rfl, SqL.of (s14 _ _ ha13), atI_nat exv, c, _, 1, _, rfl, rfl, SqT.of (s14 _ _ hc13), atI_nat (j := 1) rfl, _, rfl, by show (1 : Nat) ≤ _; omega, fun q1 nq1 => ?_⟩
        have s15 := Same.new (o := .tup [.ref q0]) nq1
        refine ⟨d, q1, ys, [.ref q0], rfl, rfl, s15 _ _ (s14 _ _ hd13), upd_same, by show ys.length + 1 ≤ _; omega, fun p2 H16 s16 hp2 => ⟨by show (2 : Nat) ≤ _; omega, fun q3 nq3 => ?_⟩⟩
        have s17 := Same.new (o := .tup [.str tt.1, .ref p2]) nq3
        have hq3 : upd H16 q3 (.tup [.str tt.1, .ref p2]) q3 = some (.tup [.str tt.1, .ref p2]) := upd_same
        have hl17 := s17 _ _ (s16 _ _ (s15 _ _ (upd_same (H := H13) (a := l) (o := .lst vs))))
        have hp17 := s17 _ _ hp2
        have sAll : Same H13 (upd H16 q3 (.tup [.str tt.1, .ref p2])) := s14.trans (s15.trans (s16.trans s17))
        generalize upd H16 q3 (.tup [.str tt.1, .ref p2]) = H17 at hq3 hl17 hp17 sAll
        refine ⟨_, rfl, _, rfl, l, vs, at', at', rfl, rfl, hl17, ixN_nat (by omega), hV _ _ ?_⟩
        have hlz := A13.2.ne nl
        have A18 : Aft z H7 (upd H17 l (.lst (vs.set at' (.ref q3)))) := (A13.same sAll).upd (A13.none nl) hlz
        have S18 : Aft z H13 (upd H17 l (.lst (vs.set at' (.ref q3)))) := ((Aft.refl A13.2).same sAll).upd nl hlz
        have hl18 : upd H17 l (.lst (vs.set at' (.ref q3))) l = some (.lst (vs.set at' (.ref q3))) := upd_same
        have hmask : mask l (upd H17 l (.lst (vs.set at' (.ref q3)))) = mask l H17 := mask_upd
        generalize upd H17 l (.lst (vs.set at' (.ref q3))) = H18 at A18 S18 hl18 hmask
        have L18 : LBk z l (b.set at' (tt.1, tt.2 ++ [(m1, (r8 : Int), m2)])) H18 := by
          refine ⟨hlz, _, hl18, ?_⟩
          rw [hmask, List.map_set]
          have n3 : q3 ≠ l := ne_of hq3 hl17 (by intro z; cases z)
          have n2 : p2 ≠ l := ne_of hp17 hl17 (by intro z; cases z)
          have n0 : q0 ≠ l := ne_of (sAll _ _ hq0) hl17 (by intro z; cases z)
          have b17 : Bag z H17 := (A13.same sAll).2
          have g1 := markS_len hm1
          have g2 := markS_len hm2
          refine Reps.set (.tup (by rw [mask_ne n3]; exact hq3) (b17.neT hq3) (.cons (.str tt.1 (by omega)) (.cons (.tup (by rw [mask_ne n2]; exact hp17) (b17.neT hp17) ?_) .nil))) at' (R13.mono (mask_new nl sAll.x))
          rw [List.map_append]
          exact (Ry.mono (mask_new nl sAll.x)).append (.cons (.tup (by rw [mask_ne n0]; exact sAll _ _ hq0) (A13.2.neT hq0) (.cons (.str m1 (by omega)) (.cons (.int (r8 : Int)) (.cons (.str m2 (by omega)) .nil)))) .nil)
        have La := L7.aft A18.1
        refine ⟨_, rfl, _, rfl, a, vs, at', _, rfl, rfl, SqL.of (S18.1 _ _ haz ha13), atI_nat exv, c, _, 1, _, rfl, rfl, SqT.of (S18.1 _ _ hcz hc13), atI_nat (j := 1) rfl, d, ys, rfl, .inr (SqT.of (S18.1 _ _ hdz hd13)), _, _, rfl, rfl, _, rfl, ?_⟩
        refine ite2 (fun g1 => ?_) (fun g1 => ?_)
        · have few6 : tt.2.length < 6 := by
            have := of_decide_eq_true g1
            omega
          have hbl' : (b.set at' (tt.1, tt.2 ++ [(m1, (r8 : Int), m2)])).length = b.length := by simp
          have hok' : ∀ t ∈ b.set at' (tt.1, tt.2 ++ [(m1, (r8 : Int), m2)]), TgOk (b.set at' (tt.1, tt.2 ++ [(m1, (r8 : Int), m2)])).length t := by
            rw [hbl']
            intro t ht
            rcases List.mem_or_eq_of_mem_set ht with ht | ht
            · exact hok t ht
            · subst ht
              refine ⟨htok.1, by simp; omega, fun dr hdr => ?_⟩
              rcases List.mem_append.mp hdr with hdr | hdr
              · exact htok.2.2 dr hdr
              · have : dr = (m1, (r8 : Int), m2) := by simpa using hdr
                subst this
                exact ⟨hm1, ⟨by show (0 : Int) ≤ r8; omega, by show (r8 : Int) < b.length; omega⟩, hm2⟩
          obtain ⟨_, ws, hw, Rw⟩ := id L18
          refine ⟨_, rfl, z, l, ws, _, rfl, .inr hw, Rw.mono mask_le, by omega, hok', fun H19 s19 => ⟨_, rfl, ?_⟩⟩
          cases gf : fitsB (b.set at' (tt.1, tt.2 ++ [(m1, (r8 : Int), m2)])) with
          | true => exact iteT ⟨_, rfl, hD1 _ _ ⟨l, _, _, _, _, _, rfl, A7.trans (A18.same s19), L18.aft s19.x, by omega, hok', gf⟩⟩
          | false => exact iteF (hD1 _ _ ⟨a, b, _, _, _, _, rfl, A7.trans (A18.same s19), La.aft s19.x, hbl, hok, hfit⟩)
        · exact iteF (hD1 _ _ ⟨a, b, _, _, _, _, rfl, A7.trans A18, La, hbl, hok, hfit⟩)
      · rintro σ H7 ⟨a, b, u5, u6, u7, u8, rfl, A7, L7, hbl, hok, hfit⟩
        obtain ⟨haz, vs, ha, R7⟩ := L7
        refine hU _ _ ⟨_, rfl, a, vs, rfl, .inl ⟨SqL.of ha, fun l nl => k _ b _ (A7.new nl) (.tup upd_same (A7.2.ne nl) ((R7.mono mask_le).mono (Same.new nl).x)) ⟨by omega, by omega, hok, ?_⟩⟩⟩
        rw [← fits_book hok]
        exact hfit
end
end T1
namespace T1
open PySem L2
def Sm (m : Str) : Prop := 1 ≤ m.length ∧ m.length ≤ 4
inductive spLMarks : List V → Hp → VK → XK → Prop where
  | mk {vs : List V} {H : Hp} {Q : VK} {E : XK} (z v b : _) (c1 : vs = [v]) (c2 : Rep z H v (bkD b)) (c3 : BkOk b) (c4 : ∀ p (ms : List Str) H', Same H H' → H p = none → H' p = some (.lst (ms.map V.str)) → ms.length ≤ 100 → (∀ m ∈ ms, Sm m) → Q (.ref p) H') : spLMarks vs H Q E
inductive spText : List V → Hp → VK → XK → Prop where
  | mk {vs : List V} {H : Hp} {Q : VK} {E : XK} (z v b : _) (n : Nat) (c1 : vs = [.ref z, v, .int n]) (c2 : Bag z H) (c3 : Rep z H v (bkD b)) (c4 : BkOk b) (c5 : 0 < n) (c6 : n ≤ 4000) (c7 : ∀ x H', Aft z H H' → x.length ≤ 4 * n → Q (.str x) H') : spText vs H Q E
section
variable {P : Program} {w : World} {K : PySem.W.Frag} {mg : Str → Option Value} {base : Heap}
theorem scLMarks : FnScope ["book", "found", "escape", "doors", "door"] ["book"] (defScope lMarks) := ⟨rfl, rfl, rfl, by decide +kernel, rfl, by decide +kernel, by decide +kernel⟩
set_option maxHeartbeats 0 in
theorem ok_lmarks {f : Addr} {fd : FuncData} (F : Fun K "_law_marks" "_law_marks" lMarks f fd) : FnOk P w K mg base CX0 1 f fd ["book"] spLMarks := by
  refine F.ok scLMarks (fun vs H Q E h => ?_) (fun cdv A outer s H vs Q E hr h => ?_)
  · obtain ⟨z, v, b, rfl, _⟩ := h
    rfl
  · obtain ⟨z, v, b, rfl, R0, hok, k⟩ := h
    obtain ⟨a, xs, rfl, haz, ha, hxl, R⟩ := rep_book R0
    obtain ⟨hb1, hb6, htok, _⟩ := hok
    have nd := scLMarks.nd
    refine ⟨_, pss_cons (ps_set (i := 1) nd rfl (Or.inl rfl) (pe_lst pa_nil))
      (pss_cons (ps_for PassesOwn.never rfl (pi_tup (pv 0)) (pg_tup rfl (pgs_cons (pg_name (i := 2) nd rfl (Or.inl rfl)) (pgs_cons (pg_name (i := 3) nd rfl (Or.inl rfl)) pgs_nil)))
        (pss_cons (ps_for PassesOwn.never rfl (pi_tup (pv 3)) (pg_name (i := 4) nd rfl (Or.inl rfl)) (pss_one (ps_set (i := 1) nd rfl (Or.inl rfl) (pe_op op_cat (pv 1) (pe_lst (pa_cons (pe_ix ix_tup (pv 4) pe_int (fun _ _ => rfl)) (pa_cons (pe_ix ix_tup (pv 4) pe_int (fun _ _ => rfl)) pa_nil)))))))
        (pss_one (ps_if (pt_cmpR op_ne (pv 2) pe_str (nomark _)) (pss_one (ps_expr (pe_bm PySem.F.plainAttrs_list PySem.F.slot_list_append PySem.F.type_list_append mt_append (pv 1) (pa_cons (pv 2) pa_nil)))) pss_nil))))
      (pss_one (ps_ret (pv 1)))), ?_⟩
    dsimp only [cxOf, Cx.nox, Cx.wish]
    have big := big1000
    refine ⟨Nat.zero_le _, fun p0 np0 => ?_⟩
    have s0 : Same H (upd H p0 (.lst [])) := Same.new np0
    refine ⟨_, rfl, a, rfl, ⟨_, SqT.of (s0 _ _ ha)⟩, for_tup (K := K) (a := a) (xs := xs) (fun i σ H2 => ∃ p ms u2 u3 u4, σ = [some (.ref a), some (.ref p), u2, u3, u4] ∧ Same H H2 ∧ H p = none ∧ H2 p = some (.lst (ms.map V.str)) ∧ ms.length ≤ 13 * i ∧ ∀ m ∈ ms, Sm m)
      ⟨p0, [], none, none, none, rfl, s0, np0, by rw [upd_same]; rfl, by simp, by simp⟩ (fun i σ H2 _ ⟨_, _, _, _, _, _, s, _⟩ => SqT.of (s _ _ ha)) ?_ ?_⟩
    · rintro i y σ H2 hi ⟨p, ms, u2, u3, u4, rfl, s2, np, hp, hml, hms⟩
      have hil : i < b.length := by have := (List.getElem?_eq_some_iff.mp hi).1; omega
      have ey : y = xs.getD i .non := by rw [List.getD_eq_getElem?_getD, hi]; rfl
      have tok := htok _ (getD_mem tg0 hil)
      obtain ⟨c, d, ys, e, hcz, hdz, hc, hd, hyl, Ry⟩ := rep_tongue (reps_tongue (b := b) (i := i) R hil)
      have hyl : ys.length = (b.getD i tg0).2.length := hyl
      rw [ey, e]
      generalize hT : b.getD i tg0 = tt at *
      have few := tok.2.1
      refine ⟨c, _, rfl, SqT.of (s2 _ _ hc), rfl, _, _, rfl, _, _, rfl, rfl, ?_⟩
      refine ⟨_, rfl, d, rfl, ⟨_, SqT.of (s2 _ _ hd)⟩, for_tup (K := K) (a := d) (xs := ys) (fun j σ H3 => ∃ p ms u4, σ = [some (.ref a), some (.ref p), some (.str tt.1), some (.ref d), u4] ∧ Same H H3 ∧ H p = none ∧ H3 p = some (.lst (ms.map V.str)) ∧ ms.length ≤ 13 * i + 2 * j ∧ ∀ m ∈ ms, Sm m)
        ⟨p, ms, _, rfl, s2, np, hp, by omega, hms⟩ (fun j σ H3 _ ⟨_, _, _, _, s, _⟩ => SqT.of (s _ _ hd)) ?_ ?_⟩
      · rintro j y2 σ H3 hj ⟨p, ms, u4, rfl, s3, np, hp, hml, hms⟩
        have hjl : j < tt.2.length := by have := (List.getElem?_eq_some_iff.mp hj).1; omega
        have ey2 : y2 = ys.getD j .non := by rw [List.getD_eq_getElem?_getD, hj]; rfl
        obtain ⟨q, e2, hqz, hq⟩ := rep_door (reps_door (ds := tt.2) (i := j) Ry hjl)
        have dok := tok.2.2 _ (getD_mem dr0 hjl)
        rw [ey2, e2]
        refine ⟨_, rfl, _, rfl, q, _, 0, _, rfl, rfl, SqT.of (s3 _ _ hq), atI_nat (j := 0) rfl, _, rfl, q, _, 2, _, rfl, rfl, SqT.of (s3 _ _ hq), atI_nat (j := 2) rfl, by show (2 : Nat) ≤ _; omega, fun l nl => ?_⟩
        have s4 := Same.new (o := .lst [.str (tt.2.getD j dr0).1, .str (tt.2.getD j dr0).2.2]) nl
        refine ⟨p, l, ms.map V.str, _, rfl, rfl, s4 _ _ hp, upd_same, by rw [List.length_map]; show _ + 2 ≤ _; omega, fun p2 np2 => ?_⟩
        have s5 := Same.new (o := .lst (ms.map V.str ++ [.str (tt.2.getD j dr0).1, .str (tt.2.getD j dr0).2.2])) np2
        refine ⟨p2, ms ++ [(tt.2.getD j dr0).1, (tt.2.getD j dr0).2.2], _, rfl, (s3.trans s4).trans s5, (s3.trans s4).free np2, by rw [upd_same]; simp, by rw [List.length_append]; show _ + 2 ≤ _; omega, fun m hm => ?_⟩
        rcases List.mem_append.mp hm with hm | hm
        · exact hms m hm
        · have g1 := markS_len dok.1
          have g2 := markS_len dok.2.2
          simp only [List.mem_cons, List.not_mem_nil, or_false] at hm
          rcases hm with rfl | rfl
          · exact ⟨g1.2, g1.1⟩
          · exact ⟨g2.2, g2.1⟩
      · rintro σ H3 ⟨p, ms, u4, rfl, s3, np, hp, hml, hms⟩
        refine ⟨_, rfl, rfl, _, rfl, ?_⟩
        have el : tt.1.length ≤ 1 := by have := tok.1; unfold escD at this; simp at this; exact this.1
        refine ite2 (fun g => ?_) (fun g => ?_)
        · refine ⟨_, rfl, .inl ⟨rfl, _, SqL.of hp⟩, _, rfl, p, _, _, rfl, rfl, hp, by rw [List.length_map]; omega, ?_⟩
          refine ⟨p, ms ++ [tt.1], _, _, _, rfl, fun b' o e' => by rw [upd_ne (ne_of_none e' np)]; exact s3 b' o e', np, by rw [upd_same]; simp, by rw [List.length_append]; show _ + 1 ≤ _; omega, fun m hm => ?_⟩
          rcases List.mem_append.mp hm with hm | hm
          · exact hms m hm
          · have : m = tt.1 := by simpa using hm
            subst this
            refine ⟨?_, by omega⟩
            rcases escD_cases tt.1 el with ⟨ex, _⟩ | ⟨c', ex, _⟩
            · rw [ex] at g
              simp at g
            · rw [ex]
              show 1 ≤ 1
              exact Nat.le_refl _
        · exact ⟨p, ms, _, _, _, rfl, s3, np, hp, by omega, hms⟩
    · rintro σ H2 ⟨p, ms, u2, u3, u4, rfl, s2, np, hp, hml, hms⟩
      exact ⟨_, rfl, k p ms H2 s2 np hp (by omega) hms⟩
theorem scText : FnScope ["bag", "book", "most", "some", "found", "turn", "one"] ["bag", "book", "most"] (defScope lText) := ⟨rfl, rfl, rfl, by decide +kernel, rfl, by decide +kernel, by decide +kernel⟩
theorem cutS_len (z : Str) (lo hi : Option Int) : (cutS z lo hi).length ≤ z.length := by
  unfold cutS
  show (List.toArray _).size ≤ _
  rw [List.size_toArray, List.length_take, List.length_drop]
  have : z.cps.toList.length = z.length := by simp; rfl
  omega
theorem five_sm : ∀ m ∈ [Str.ofString "x", Str.ofString " ", Str.ofString "a", Str.ofString "b", Str.ofString "\n"], 1 ≤ m.length ∧ m.length ≤ 4 := by decide +kernel
set_option maxHeartbeats 0 in
theorem ok_text {f f1 f2 : Addr} {fd fd1 fd2 : FuncData} (F : Fun K "_law_text" "_law_text" lText f fd) (T : TxtB mg)
    (k1 : PySem.W.keepIn K (.ref f1) = true) (b1 : Binds K fd1 ["bag", "many"] []) (m1 : mg "_law_take" = some (.ref f1)) (G1 : FnOk P w K mg base CX0 1 f1 fd1 ["bag", "many"] spTake)
    (k2 : PySem.W.keepIn K (.ref f2) = true) (b2 : Binds K fd2 ["book"] []) (m2 : mg "_law_marks" = some (.ref f2)) (G2 : FnOk P w K mg base CX0 1 f2 fd2 ["book"] spLMarks) : FnOk P w K mg base CX0 2 f fd ["bag", "book", "most"] spText := by
  refine F.ok scText (fun vs H Q E h => ?_) (fun cdv A outer s H vs Q E hr h => ?_)
  · obtain ⟨z, v, b, n, rfl, _⟩ := h
    rfl
  · obtain ⟨z, v, b, n, rfl, hB, R, hok, hn1, hn2, k⟩ := h
    have nd := scText.nd
    refine ⟨_, pss_cons (ps_set (i := 3) nd rfl (Or.inl rfl) (pe_op op_cat (pe_call G2 hr rfl m2 k2 b2 .nil pass0 (pa_cons (pv 1) pa_nil)) (pe_lst (pa_K pe_str (pa_K pe_str (pa_K pe_str (pa_K pe_str (pa_K pe_str pa_nil))))))))
      (pss_cons (ps_set (i := 4) nd rfl (Or.inl rfl) pe_str)
      (pss_cons (ps_for PassesOwn.never rfl (pi_range1 rfl T.range (pa_cons (pe_call G1 hr rfl m1 k1 b1 .nil pass0 (pa_cons (pv 0) (pa_cons (pv 2) pa_nil))) pa_nil)) (pg_name (i := 5) nd rfl (Or.inl rfl))
        (pss_cons (ps_set (i := 6) nd rfl (Or.inl rfl) (pe_ix ix_list (pv 3) (pe_call G1 hr rfl m1 k1 b1 .nil pass0 (pa_cons (pv 0) (pa_cons (pe_callB call_len_seq (by rfl) T.len b_len (pa_cons (pv 3) pa_nil)) pa_nil))) (fun _ _ => rfl)))
        (pss_cons (ps_if (pt_cmpR op_eq (pe_call G1 hr rfl m1 k1 b1 .nil pass0 (pa_cons (pv 0) (pa_cons pe_int pa_nil))) pe_int (nomark _))
          (pss_one (ps_set (i := 6) nd rfl (Or.inl rfl) (pe_slice sl_str (pv 6) po_none (po_some (pe_op op_add pe_int (pe_call G1 hr rfl m1 k1 b1 .nil pass0 (pa_cons (pv 0) (pa_cons (pe_callB call_len_str (by rfl) T.len b_len (pa_cons (pv 6) pa_nil)) pa_nil)))))))) pss_nil)
        (pss_one (ps_set (i := 4) nd rfl (Or.inl rfl) (pe_op op_add_str (pv 4) (pv 6)))))))
      (pss_one (ps_ret (pv 4))))), ?_⟩
    dsimp only [cxOf, Cx.nox, Cx.wish]
    have big := big1000
    have big2 : (100000 : Nat) ≤ sizeLine := by rw [sizeLine_eq]; decide
    refine ⟨_, rfl, z, v, b, rfl, R, hok, fun p1 ms H1 s1 np1 hp1 hml hms => ⟨by show (5 : Nat) ≤ _; omega, fun l nl => ?_⟩⟩
    have s2 := Same.new (o := .lst ([Str.ofString "x", Str.ofString " ", Str.ofString "a", Str.ofString "b", Str.ofString "\n"].map V.str)) nl
    refine ⟨p1, l, ms.map V.str, [Str.ofString "x", Str.ofString " ", Str.ofString "a", Str.ofString "b", Str.ofString "\n"].map V.str, rfl, rfl, s2 _ _ hp1, upd_same, by rw [List.length_map]; show _ + 5 ≤ _; omega, fun p2 np2 => ?_⟩
    have np2 : upd H1 l (.lst ([Str.ofString "x", Str.ofString " ", Str.ofString "a", Str.ofString "b", Str.ofString "\n"].map V.str)) p2 = none := np2
    have emap : ms.map V.str ++ [Str.ofString "x", Str.ofString " ", Str.ofString "a", Str.ofString "b", Str.ofString "\n"].map V.str = (ms ++ [Str.ofString "x", Str.ofString " ", Str.ofString "a", Str.ofString "b", Str.ofString "\n"]).map V.str := (List.map_append ..).symm
    rw [emap]
    have five := five_sm
    show (tSeq _ _) _ _ (upd (upd H1 l (.lst ([Str.ofString "x", Str.ofString " ", Str.ofString "a", Str.ofString "b", Str.ofString "\n"].map V.str))) p2 (.lst ((ms ++ [Str.ofString "x", Str.ofString " ", Str.ofString "a", Str.ofString "b", Str.ofString "\n"]).map V.str)))
    clear emap
    have h5 : [Str.ofString "x", Str.ofString " ", Str.ofString "a", Str.ofString "b", Str.ofString "\n"].length = 5 := rfl
    generalize [Str.ofString "x", Str.ofString " ", Str.ofString "a", Str.ofString "b", Str.ofString "\n"] = f5 at *
    have s3 := Same.new (o := .lst ((ms ++ f5).map V.str)) np2
    have hB2 := ((hB.same s1).same s2)
    have hz2 := hB2.ne np2
    have A3 : Aft z H (upd (upd H1 l (.lst (f5.map V.str))) p2 (.lst ((ms ++ f5).map V.str))) := (((Aft.refl hB).same s1).same s2).new np2
    have hp3 : upd (upd H1 l (.lst (f5.map V.str))) p2 (.lst ((ms ++ f5).map V.str)) p2 = some (.lst ((ms ++ f5).map V.str)) := upd_same
    generalize upd (upd H1 l (.lst (f5.map V.str))) p2 (.lst ((ms ++ f5).map V.str)) = H3 at A3 hp3
    have hall : ∀ m ∈ ms ++ f5, Sm m := fun m hm => (List.mem_append.mp hm).elim (hms m) (five m)
    have hlen : (ms ++ f5).length ≤ 105 := by rw [List.length_append]; omega
    have hlen1 : 1 ≤ (ms ++ f5).length := by rw [List.length_append]; omega
    generalize ms ++ f5 = so at *
    refine ⟨_, rfl, _, rfl, z, n, rfl, A3.2, by omega, by omega, fun r H4 hr4 a4 => ⟨r, rfl, by omega, by omega, ?_⟩⟩
    have hp4 := a4.1 _ _ hz2 hp3
    have A4 := A3.trans a4
    have er : ((r : Int)).toNat = r := Int.toNat_natCast r
    rw [er]
    have hlm : (so.map V.str).length = so.length := List.length_map ..
    refine for_range (fun i σ H5 => ∃ x u5 u6, σ = [some (.ref z), some v, some (.int n), some (.ref p2), some (.str x), u5, u6] ∧ Aft z H H5 ∧ H5 p2 = some (.lst (so.map V.str)) ∧ x.length ≤ 4 * i) ⟨_, none, none, rfl, A4, hp4, by decide +kernel⟩ ?_ ?_
    · rintro i σ H5 hi ⟨x, u5, u6, rfl, A5, hp5, hxl⟩
      refine ⟨_, rfl, _, rfl, _, rfl, p2, _, rfl, .inl (SqL.of hp5), z, (so.map V.str).length, rfl, A5.2, by omega, by omega, fun r2 H6 hr2 a6 => ?_⟩
      have hr3 : r2 < so.length := by omega
      have A6 := A5.trans a6
      have hp6 := a6.1 _ _ hz2 hp5
      obtain ⟨g1, g2⟩ := hall so[r2] (List.getElem_mem hr3)
      refine ⟨p2, _, r2, .str so[r2], rfl, rfl, SqL.of hp6, atI_nat (by simp [hr3]), ?_⟩
      generalize so[r2] = m at g1 g2
      refine ⟨_, rfl, z, 6, rfl, A6.2, by decide, by decide, fun r3 H7 hr7 a7 => ⟨rfl, _, rfl, ?_⟩⟩
      have A7 := A6.trans a7
      have hp7 := a7.1 _ _ hz2 hp6
      refine ite2 (fun g => ?_) (fun g => ?_)
      · refine ⟨_, rfl, _, rfl, _, rfl, m, rfl, by omega, z, m.length, rfl, A7.2, by omega, by omega, fun r4 H8 hr8 a8 => ⟨1, r4, rfl, rfl, _, rfl, m, rfl, by omega, ?_⟩⟩
        have hc := cutS_len m none (some (1 + (r4 : Int)))
        exact ⟨_, rfl, _, rfl, _, _, rfl, rfl, by omega, _, _, _, rfl, A7.trans a8, a8.1 _ _ hz2 hp7, by rw [str_len_append]; omega⟩
      · exact ⟨_, rfl, _, rfl, _, _, rfl, rfl, by omega, _, _, _, rfl, A7, hp7, by rw [str_len_append]; omega⟩
    · rintro σ H5 ⟨x, u5, u6, rfl, A5, hp5, hxl⟩
      exact ⟨_, rfl, k x H5 A5 (by omega)⟩
end
end T1
namespace T1
open PySem L2
abbrev LDr := Int × Int × Str
abbrev ld0 : LDr := (0, 0, ⟨#[]⟩)
def LdOk (b : Bk) (ds : List LDr) : Prop := ∀ d ∈ ds, (0 ≤ d.2.1 ∧ d.2.1 < b.length) ∧ Sm d.2.2
def tongueL (ds : List LDr) : Int := match ds.getLast? with
  | some d => d.2.1
  | none => 0
def lastL (ds : List LDr) : List LDr := ds.drop (ds.length - 1)
def fitAt (x : Str) (i : Nat) (m : Str) : Bool := decide (V.str (cutS x (some (i : Int)) (some ((i : Int) + m.length))) = V.str m)
section
variable {P : Program} {w : World} {K : PySem.W.Frag} {mg : Str → Option Value} {base : Heap}
end
end T1
namespace T1
open PySem L2
theorem tongue_last {ds : List LDr} (h : 0 < ds.length) : tongueL ds = (ds.getD (ds.length - 1) ld0).2.1 := by
  have hlast : ds.getLast? = some (ds.getD (ds.length - 1) ld0) := by
    rw [List.getLast?_eq_getElem?]
    have : ds.length - 1 < ds.length := by omega
    simp [this]
  unfold tongueL
  rw [hlast]
theorem tongue_nat {b : Bk} {ds : List LDr} (hld : LdOk b ds) (hb : 1 ≤ b.length) : ∃ tN : Nat, tongueL ds = (tN : Int) ∧ tN < b.length := by
  unfold tongueL
  cases g : ds.getLast? with
  | none => exact ⟨0, rfl, by omega⟩
  | some d =>
    have := (hld d (List.mem_of_getLast? g)).1
    exact ⟨d.2.1.toNat, by show d.2.1 = _; omega, by omega⟩
mutual
theorem Rep.butL {z q : Addr} {H H' : Hp} {l : List V} (hq : H q = some (.lst l)) (s : SameX q H H') : ∀ {v : V} {d : D}, Rep z H v d → NoL d → Rep z H' v d
  | _, _, .non, _ => .non
  | _, _, .bl b, _ => .bl b
  | _, _, .int i, _ => .int i
  | _, _, .str x h, _ => .str x h
  | _, _, .tup h hz r, .tup t => .tup (s _ _ (ne_of h hq (by intro q; cases q)) h) hz (Reps.butL hq s r t)
theorem Reps.butL {z q : Addr} {H H' : Hp} {l : List V} (hq : H q = some (.lst l)) (s : SameX q H H') : ∀ {vs : List V} {ds : List D}, Reps z H vs ds → NoLs ds → Reps z H' vs ds
  | _, _, .nil, _ => .nil
  | _, _, .cons h t, .cons h' t' => .cons (Rep.butL hq s h h') (Reps.butL hq s t t')
end
section
variable {P : Program} {w : World} {K : PySem.W.Frag} {mg : Str → Option Value} {base : Heap}
end
end T1
namespace T1
open PySem L2
theorem fit_len {x m : Str} {i : Nat} (h : fitAt x i m = true) (hi : i ≤ x.length) : i + m.length ≤ x.length := by
  have a := of_decide_eq_true h
  have a : cutS x (some (i : Int)) (some ((i : Int) + m.length)) = m := by injection a
  have hl : (cutS x (some (i : Int)) (some ((i : Int) + m.length))).length = m.length := by rw [a]
  have e : ((i : Int) + (m.length : Int)) = ((i + m.length : Nat) : Int) := by omega
  rw [e] at hl
  unfold cutS at hl
  have hl : (List.toArray ((x.cps.toList.drop (HT.sIx x.length 0 (some (i : Int)))).take (HT.sIx x.length x.length (some ((i + m.length : Nat) : Int)) - HT.sIx x.length 0 (some (i : Int))))).size = m.length := hl
  rw [List.size_toArray, List.length_take, List.length_drop, HT.sIx_nat, HT.sIx_nat] at hl
  have : x.cps.toList.length = x.length := by simp; rfl
  omega
end T1
namespace T1
open PySem L2
section
variable {P : Program} {w : World} {K : PySem.W.Frag} {mg : Str → Option Value} {base : Heap}
end
end T1
namespace T1
open PySem L2
def pdD (d : LDr) : D := .tup [.int d.2.1, .str d.2.2]
def PDs (z : Addr) (H : Hp) (q : Addr) (ds : List LDr) : Prop := ∃ vs, H q = some (.lst vs) ∧ Reps z H vs (ds.map pdD)
theorem rep_pd {z : Addr} {H : Hp} {v : V} {d : LDr} (r : Rep z H v (pdD d)) : ∃ a, v = .ref a ∧ a ≠ z ∧ H a = some (.tup [.int d.2.1, .str d.2.2]) := by
  cases r with
  | tup h hz r =>
    cases r with
    | cons r1 r =>
      cases r with
      | cons r2 r =>
        cases r
        cases r1
        cases r2
        exact ⟨_, rfl, hz, h⟩
theorem reps_pd {z : Addr} {H : Hp} {xs : List V} {ds : List LDr} {i : Nat} (r : Reps z H xs (ds.map pdD)) (hi : i < ds.length) : Rep z H (xs.getD i .non) (pdD (ds.getD i ld0)) := by
  have := r.get (i := i) (by simpa using hi)
  simpa [hi] using this
theorem pd_last {z : Addr} {H : Hp} {ds : List LDr} {vs : List V} (RD : Reps z H vs (ds.map pdD)) (hpos : 0 < ds.length) : ∃ ad, atI vs (-1) = some (.ref ad) ∧ H ad = some (.tup [.int (ds.getD (ds.length - 1) ld0).2.1, .str (ds.getD (ds.length - 1) ld0).2.2]) := by
  have hvl : vs.length = ds.length := by have := RD.length; simpa using this
  obtain ⟨ad, ed, hadz, had⟩ := rep_pd (reps_pd (ds := ds) (i := ds.length - 1) RD (by omega))
  refine ⟨ad, ?_, had⟩
  have e1 : ixN vs.length (-1) = some (vs.length - 1) := by
    unfold ixN
    rw [if_neg (by decide), if_pos (by omega)]
    congr 1
    omega
  unfold atI
  rw [e1]
  show vs[vs.length - 1]? = _
  have h1 : vs.length - 1 < vs.length := by omega
  have h2 : vs.getD (vs.length - 1) .non = vs[vs.length - 1] := by simp [h1]
  rw [List.getElem?_eq_getElem h1, ← h2, hvl, ed]
inductive spWithin : List V → Hp → VK → XK → Prop where
  | mk {vs : List V} {H : Hp} {Q : VK} {E : XK} (z q ds : _) (c1 : vs = [.ref q]) (c2 : PDs z H q ds) (c3 : Q (.int (tongueL ds)) H) : spWithin vs H Q E
section
variable {P : Program} {w : World} {K : PySem.W.Frag} {mg : Str → Option Value} {base : Heap}
theorem scWithin : FnScope ["doors", "inner", "close"] ["doors"] (defScope sWithin) := ⟨rfl, rfl, rfl, by decide +kernel, rfl, by decide +kernel, by decide +kernel⟩
set_option maxHeartbeats 0 in
theorem ok_within {f : Addr} {fd : FuncData} (F : Fun K "tongue_within" "tongue_within" sWithin f fd) : FnOk P w K mg base CX0 1 f fd ["doors"] spWithin := by
  refine F.ok scWithin (fun vs H Q E h => ?_) (fun cdv A outer s H vs Q E hr h => ?_)
  · obtain ⟨z, q, ds, rfl, _⟩ := h
    rfl
  · obtain ⟨z, q, ds, rfl, ⟨vs, hq, RD⟩, k⟩ := h
    have nd := scWithin.nd
    have hvl : vs.length = ds.length := by have := RD.length; simpa using this
    refine ⟨_, pss_cons (ps_if (pt_not (pt_truth (pv 0) (fun _ => rfl))) (pss_one (ps_ret pe_int)) pss_nil)
      (pss_cons (ps_asg (pe_ix ix_list (pv 0) (pe_un un_neg pe_int) (fun _ _ => rfl)) (pg_tup rfl (pgs_cons (pg_name (i := 1) nd rfl (Or.inl rfl)) (pgs_cons (pg_name (i := 2) nd rfl (Or.inl rfl)) pgs_nil))))
      (pss_one (ps_ret (pv 1)))), ?_⟩
    dsimp only [cxOf, Cx.nox, Cx.wish]
    refine ⟨_, rfl, _, .inl ⟨vs, SqL.of hq, rfl⟩, ?_⟩
    by_cases hpos : 0 < ds.length
    · have hve : (!vs.isEmpty) = true := by
        cases vs with
        | nil => simp at hvl; omega
        | cons _ _ => rfl
      rw [hve]
      obtain ⟨ad, hat, had⟩ := pd_last RD hpos
      refine iteF ?_
      refine ⟨_, rfl, 1, rfl, q, vs, -1, _, rfl, rfl, SqL.of hq, hat, ad, _, rfl, SqT.of had, rfl, _, _, rfl, _, _, rfl, rfl, _, rfl, ?_⟩
      rw [tongue_last hpos] at k
      exact k
    · have hve : (!vs.isEmpty) = false := by
        cases vs with
        | nil => rfl
        | cons _ _ => simp at hvl; omega
      rw [hve]
      refine iteT ?_
      have : ds = [] := List.eq_nil_of_length_eq_zero (by omega)
      subst this
      exact k
end
end T1
namespace T1
open PySem L2
abbrev Mk := Str × Option Dr
def mkOD : Option Dr → D
  | none => .non
  | some d => drD d
def mkD (m : Mk) : D := .tup [.str m.1, mkOD m.2]
def possL (b : Bk) (ds : List LDr) : List Mk := (lastL ds).map (fun d => (d.2.2, none)) ++ (b.getD (tongueL ds).toNat tg0).2.map fun d => (d.1, some d)
theorem noL_dr (d : Dr) : NoL (drD d) := .tup (.cons (.str _) (.cons (.int _) (.cons (.str _) .nil)))
theorem noL_mk (m : Mk) : NoL (mkD m) := by
  obtain ⟨x, o⟩ := m
  cases o with
  | none => exact .tup (.cons (.str _) (.cons .non .nil))
  | some d => exact .tup (.cons (.str _) (.cons (noL_dr d) .nil))
theorem noL_mks : ∀ ms : List Mk, NoLs (ms.map mkD)
  | [] => .nil
  | d :: r => .cons (noL_mk d) (noL_mks r)
inductive spPoss : List V → Hp → VK → XK → Prop where
  | mk {vs : List V} {H : Hp} {Q : VK} {E : XK} (z v b q ds : _) (c1 : vs = [v, .ref q]) (c2 : Bag z H) (c3 : Rep z H v (bkD b)) (c4 : BkOk b) (c5 : PDs z H q ds) (c6 : LdOk b ds) (c7 : ∀ p ws H', Same H H' → H p = none → H' p = some (.lst ws) → Reps z H' ws ((possL b ds).map mkD) → Q (.ref p) H') : spPoss vs H Q E
theorem lastL_pos {ds : List LDr} (h : 0 < ds.length) : lastL ds = [ds.getD (ds.length - 1) ld0] := by
  have hlt : ds.length - 1 < ds.length := by omega
  unfold lastL
  rw [List.drop_eq_getElem_cons hlt]
  have : ds.length - 1 + 1 = ds.length := by omega
  rw [this, List.drop_length]
  simp [hlt]
theorem getD_mem' {α : Type} {xs : List α} {i : Nat} (d : α) (h : i < xs.length) : xs.getD i d = xs[i] := by simp [h]
section
variable {P : Program} {w : World} {K : PySem.W.Frag} {mg : Str → Option Value} {base : Heap}
theorem scPoss : FnScope ["book", "doors", "marks", "inner", "close", "escape", "ways", "door"] ["book", "doors"] (defScope sPoss) := ⟨rfl, rfl, rfl, by decide +kernel, rfl, by decide +kernel, by decide +kernel⟩
set_option maxHeartbeats 0 in
theorem ok_poss {f f1 : Addr} {fd fd1 : FuncData} (F : Fun K "possible_marks" "possible_marks" sPoss f fd)
    (k1 : PySem.W.keepIn K (.ref f1) = true) (b1 : Binds K fd1 ["doors"] []) (m1 : mg "tongue_within" = some (.ref f1)) (G1 : FnOk P w K mg base CX0 1 f1 fd1 ["doors"] spWithin) : FnOk P w K mg base CX0 2 f fd ["book", "doors"] spPoss := by
  refine F.ok scPoss (fun vs H Q E h => ?_) (fun cdv A outer s H vs Q E hr h => ?_)
  · obtain ⟨z, v, b, q, ds, rfl, _⟩ := h
    rfl
  · obtain ⟨z, v, b, q, ds, rfl, hB, R0, hok, ⟨vs, hq, RD⟩, hld, k⟩ := h
    obtain ⟨a, xs, rfl, haz, ha, hxl, R⟩ := rep_book R0
    obtain ⟨hb1, hb6, htok, _⟩ := hok
    have nd := scPoss.nd
    have big := big1000
    have hvl : vs.length = ds.length := by have := RD.length; simpa using this
    refine ⟨_, pss_cons (ps_set (i := 2) nd rfl (Or.inl rfl) (pe_lst pa_nil))
      (pss_cons (ps_if (pt_truth (pv 1) (fun _ => rfl)) (pss_cons (ps_asg (pe_ix ix_list (pv 1) (pe_un un_neg pe_int) (fun _ _ => rfl)) (pg_tup rfl (pgs_cons (pg_name (i := 3) nd rfl (Or.inl rfl)) (pgs_cons (pg_name (i := 4) nd rfl (Or.inl rfl)) pgs_nil))))
        (pss_one (ps_expr (pe_bm PySem.F.plainAttrs_list PySem.F.slot_list_append PySem.F.type_list_append mt_append (pv 2) (pa_cons (pe_tup (pa_cons (pv 4) (pa_cons pe_non pa_nil))) pa_nil))))) pss_nil)
      (pss_cons (ps_asg (pe_ix ix_tup (pv 0) (pe_call G1 hr rfl m1 k1 b1 .nil pass0 (pa_cons (pv 1) pa_nil)) (fun _ _ => rfl)) (pg_tup rfl (pgs_cons (pg_name (i := 5) nd rfl (Or.inl rfl)) (pgs_cons (pg_name (i := 6) nd rfl (Or.inl rfl)) pgs_nil))))
      (pss_cons (ps_for PassesOwn.never rfl (pi_tup (pv 6)) (pg_name (i := 7) nd rfl (Or.inl rfl))
        (pss_one (ps_expr (pe_bm PySem.F.plainAttrs_list PySem.F.slot_list_append PySem.F.type_list_append mt_append (pv 2) (pa_cons (pe_tup (pa_cons (pe_ix ix_tup (pv 7) pe_int (fun _ _ => rfl)) (pa_cons (pv 7) pa_nil))) pa_nil)))))
      (pss_one (ps_ret (pv 2)))))), ?_⟩
    dsimp only [cxOf, Cx.nox, Cx.wish]
    refine ⟨Nat.zero_le _, fun pm npm => ?_⟩
    have s1 := Same.new (o := .lst []) npm
    have hpq : q ≠ pm := ne_of_none hq npm
    have hpz : pm ≠ z := hB.ne npm
    dsimp only
    refine seq_cut (J := fun σ' H2 => ∃ (u3 u4 : Option V), σ' = [some (.ref a), some (.ref q), some (.ref pm), u3, u4, none, none, none] ∧ Same H H2 ∧ ∃ ws, H2 pm = some (.lst ws) ∧ Reps z H2 ws (((lastL ds).map fun d => ((d.2.2, none) : Mk)).map mkD)) (fun U J => ?g1) ?g2
    case g1 =>
      refine ⟨_, rfl, _, .inl ⟨vs, SqL.of (s1 _ _ hq), rfl⟩, ?_⟩
      refine ite2 (fun hne => ?_) (fun hne => ?_)
      case refine_1 =>
        have hpos : 0 < ds.length := by
          cases vs with
          | nil => simp at hne
          | cons _ _ => simp at hvl; omega
        obtain ⟨ad, hat, had⟩ := pd_last (RD.mono s1.x) hpos
        refine ⟨_, rfl, 1, rfl, q, vs, -1, _, rfl, rfl, SqL.of (s1 _ _ hq), hat, ad, _, rfl, SqT.of had, rfl, _, _, rfl, _, _, rfl, rfl, _, rfl, .inl ⟨rfl, _, SqL.of upd_same⟩, _, rfl, by show (2 : Nat) ≤ _; omega, fun pt npt => ?_⟩
        have t2 := Same.new (o := .tup [.str (ds.getD (ds.length - 1) ld0).2.2, .non]) npt
        have hpt : upd (upd H pm (.lst [])) pt (.tup [.str (ds.getD (ds.length - 1) ld0).2.2, .non]) pt = some (.tup [.str (ds.getD (ds.length - 1) ld0).2.2, .non]) := upd_same
        have hptz : pt ≠ z := (hB.same s1).ne npt
        have hp2 := t2 pm _ upd_same
        have S2 := s1.trans t2
        generalize upd (upd H pm (.lst [])) pt (.tup [.str (ds.getD (ds.length - 1) ld0).2.2, .non]) = H1 at hpt hp2 S2
        refine ⟨pm, [], _, rfl, rfl, hp2, by show (0 : Nat) < _; omega, ?_⟩
        have s2 : Same H (upd H1 pm (.lst ([] ++ [.ref pt]))) := fun b' o e => by rw [upd_ne (ne_of_none e npm)]; exact S2 b' o e
        have hW : ∃ ws, upd H1 pm (.lst ([] ++ [.ref pt])) pm = some (.lst ws) ∧ Reps z (upd H1 pm (.lst ([] ++ [.ref pt]))) ws (((lastL ds).map fun d => ((d.2.2, none) : Mk)).map mkD) := by
          refine ⟨_, upd_same, Reps.updL hp2 ?_ (noL_mks _)⟩
          rw [lastL_pos hpos]
          have hsm := (hld _ (getD_mem ld0 (i := ds.length - 1) (by omega))).2
          exact .cons (.tup hpt hptz (.cons (.str _ (by have := hsm.2; omega)) (.cons .non .nil))) .nil
        exact J _ _ ⟨_, _, rfl, s2, hW⟩
      case refine_2 =>
        have hz : ds.length = 0 := by
          cases vs with
          | nil => simp at hvl; omega
          | cons _ _ => simp at hne
        have s2 := s1
        have hW : ∃ ws, upd H pm (.lst []) pm = some (.lst ws) ∧ Reps z (upd H pm (.lst [])) ws (((lastL ds).map fun d => ((d.2.2, none) : Mk)).map mkD) := by
          refine ⟨[], upd_same, ?_⟩
          have : ds = [] := List.eq_nil_of_length_eq_zero hz
          rw [this]
          exact .nil
        exact J _ _ ⟨_, _, rfl, s2, hW⟩
    case g2 =>
      rintro σ' H2 ⟨u3, u4, rfl, s2, ws, hw, RW⟩
      obtain ⟨tN, htN, htl⟩ := tongue_nat hld hb1
      obtain ⟨c, d, ys, ec, hcz, hdz, hc, hd, hyl, Ry⟩ := rep_tongue ((reps_tongue (b := b) (i := tN) R htl).mono s2.x)
      have exv : xs[tN]? = some (.ref c) := by
        have h1 : tN < xs.length := by omega
        have h2 : xs.getD tN .non = xs[tN] := by simp [h1]
        rw [List.getElem?_eq_getElem h1, ← h2, ec]
      have etn : b.getD (tongueL ds).toNat tg0 = b.getD tN tg0 := by rw [htN]; rfl
      have tok := htok _ (getD_mem tg0 htl)
      have hyl : ys.length = (b.getD tN tg0).2.length := hyl
      have hposs : possL b ds = (lastL ds).map (fun d => ((d.2.2, none) : Mk)) ++ (b.getD tN tg0).2.map fun d => (d.1, some d) := by unfold possL; rw [etn]
      rw [hposs] at k
      clear hposs etn
      generalize hT : b.getD tN tg0 = tt at *
      have few := tok.2.1
      have hll : (lastL ds).length ≤ 1 := by unfold lastL; rw [List.length_drop]; omega
      refine ⟨_, rfl, _, rfl, z, q, ds, rfl, ⟨vs, s2 _ _ hq, RD.mono s2.x⟩, a, xs, tongueL ds, _, rfl, rfl, SqT.of (s2 _ _ ha), by rw [htN]; exact atI_nat exv, c, _, rfl, SqT.of hc, rfl, _, _, rfl, _, _, rfl, rfl, ?_⟩
      refine ⟨_, rfl, d, rfl, ⟨_, SqT.of hd⟩, for_tup (K := K) (a := d) (xs := ys) (fun i σ H3 => ∃ u3 u4 u, σ = [some (.ref a), some (.ref q), some (.ref pm), u3, u4, some (.str tt.1), some (.ref d), u] ∧ Same H H3 ∧ SameX pm H2 H3 ∧ ∃ ws, H3 pm = some (.lst ws) ∧ Reps z H3 ws (((lastL ds).map (fun d => ((d.2.2, none) : Mk)) ++ (tt.2.take i).map fun d => (d.1, some d)).map mkD))
        ⟨_, _, none, rfl, s2, .refl, ws, hw, by simpa using RW⟩ (fun j σ H3 _ ⟨_, _, _, _, _, s, _⟩ => SqT.of (s _ _ (ne_of hd hw (by intro q; cases q)) hd)) ?_ ?_⟩
      · rintro j y σ H3 hj ⟨u3, u4, u, rfl, s3, sx3, ws3, hw3, RW3⟩
        have hjl : j < tt.2.length := by have := (List.getElem?_eq_some_iff.mp hj).1; omega
        have ey : y = ys.getD j .non := by rw [List.getD_eq_getElem?_getD, hj]; rfl
        have Ry3 : Rep z H3 (ys.getD j .non) (drD (tt.2.getD j dr0)) := Rep.butL hw sx3 (reps_door (ds := tt.2) (i := j) Ry hjl) (noL_dr _)
        obtain ⟨qd, e2, hqz, hqd⟩ := rep_door Ry3
        have dok := tok.2.2 _ (getD_mem dr0 hjl)
        rw [e2] at Ry3
        rw [ey, e2]
        have hwl : ws3.length ≤ 10 := by
          have := RW3.length
          simp at this
          omega
        refine ⟨_, rfl, .inl ⟨rfl, _, SqL.of hw3⟩, _, rfl, qd, _, 0, _, rfl, rfl, SqT.of hqd, atI_nat (j := 0) rfl, _, rfl, by show (2 : Nat) ≤ _; omega, fun pt npt => ?_⟩
        have s4 := Same.new (o := .tup [.str (tt.2.getD j dr0).1, .ref qd]) npt
        have hpt : upd H3 pt (.tup [.str (tt.2.getD j dr0).1, .ref qd]) pt = some (.tup [.str (tt.2.getD j dr0).1, .ref qd]) := upd_same
        have hptz : pt ≠ z := (hB.same s3).ne npt
        have hw4 := s4 _ _ hw3
        have RW4 := RW3.mono s4.x (z := z)
        have Ry4 := Ry3.mono s4.x (z := z)
        have S4 := s3.trans s4
        have SX4 := sx3.trans s4.x
        generalize upd H3 pt (.tup [.str (tt.2.getD j dr0).1, .ref qd]) = H4 at hpt hw4 RW4 Ry4 S4 SX4
        refine ⟨pm, ws3, _, rfl, rfl, hw4, by omega, ?_⟩
        have g1 := markS_len dok.1
        refine ⟨_, _, _, rfl, fun b' o e => by rw [upd_ne (ne_of_none e npm)]; exact S4 b' o e, SX4.upd, _, upd_same, ?_⟩
        refine Reps.updL hw4 ?_ (noL_mks _)
        have et : (tt.2.take (j + 1)).map (fun d => ((d.1, some d) : Mk)) = (tt.2.take j).map (fun d => ((d.1, some d) : Mk)) ++ [((tt.2.getD j dr0).1, some (tt.2.getD j dr0))] := by
          rw [List.take_add_one, List.getElem?_eq_getElem hjl, getD_mem' dr0 hjl, List.map_append]
          rfl
        rw [et, ← List.append_assoc, List.map_append]
        exact RW4.append (.cons (.tup hpt hptz (.cons (.str _ (by omega)) (.cons Ry4 .nil))) .nil)
      · rintro σ H3 ⟨u3, u4, u, rfl, s3, sx3, ws3, hw3, RW3⟩
        rw [hyl, List.take_length] at RW3
        exact ⟨_, rfl, k pm ws3 H3 s3 npm hw3 RW3⟩
end
end T1
namespace T1
open PySem L2
theorem loop_repsF {z : Addr} {J : It} {g : TG} {tt : TT} {te : TE} {Qe : St → Hp → Prop} {σ0 : St} {H0 : Hp} {p : Addr} {n : Nat} {item : Nat → V} (keep : Nat → Bool) (dat : Nat → D) (Pσ : St → Prop) (hσ : Pσ σ0) (hp : H0 p = none) (hn : n ≤ 100000) (ok : ItOk J n item (upd H0 p (.lst [])) p) (nl : ∀ i, NoL (dat i))
    (turn : ∀ i σ H (Ct : V → St → Hp → Prop) (Cf : St → Hp → Prop), i < n → Pσ σ → Same H0 H → (keep i = true → ∀ σ2 v H4, Pσ σ2 → Same H H4 → Rep z H4 v (dat i) → Ct v σ2 H4) → (keep i = false → ∀ σ2 H4, Pσ σ2 → Same H H4 → Cf σ2 H4) →
      g (item i) σ H fun σ2 H2 => tt σ2 H2 fun b H3 => if b = true then te σ2 H3 fun v H4 => Ct v σ2 H4 else Cf σ2 H3)
    (hQ : ∀ σ H vs, Same H0 H → H p = some (.lst vs) → Reps z H vs (((List.range n).filter keep).map dat) → Qe σ H) : tLoop J g tt (tApp p te) Qe σ0 (upd H0 p (.lst [])) := by
  have s0 : Same H0 (upd H0 p (.lst [])) := Same.new hp
  have up : ∀ {H}, SameX p (upd H0 p (.lst [])) H → Same H0 H := fun {H} h b o e => h b o (ne_of_none e hp) (s0 b o e)
  have nls : ∀ l : List Nat, NoLs (l.map dat) := fun l => by
    induction l with
    | nil => exact .nil
    | cons a r ih => exact .cons (nl a) ih
  refine ⟨fun i m σ H => m = n - i ∧ i ≤ n ∧ Pσ σ ∧ SameX p (upd H0 p (.lst [])) H ∧ ∃ vs, H p = some (.lst vs) ∧ vs.length ≤ i ∧ Reps z H vs (((List.range i).filter keep).map dat), ⟨n, rfl, Nat.zero_le _, hσ, .refl, [], upd_same, Nat.le_refl _, .nil⟩, ?_⟩
  rintro i m σ H ⟨rfl, hi, hP, hS, vs, hv, hl, R⟩
  by_cases hlt : i < n
  · refine .inr ⟨ok.go i H hlt hS, fun σ' H' => Pσ σ' ∧ SameX p (upd H0 p (.lst [])) H' ∧ ∃ vs, H' p = some (.lst vs) ∧ vs.length ≤ i + 1 ∧ Reps z H' vs (((List.range (i + 1)).filter keep).map dat), fun σ' H' ⟨a, b, c⟩ => ⟨n - (i + 1), by omega, rfl, hlt, a, b, c⟩, fun x H' y => ?_⟩
    obtain ⟨rfl, rfl⟩ := ok.yld i H x H' hlt hS y
    have er : ((List.range (i + 1)).filter keep).map dat = ((List.range i).filter keep).map dat ++ (if keep i then [dat i] else []) := by
      rw [List.range_succ, List.filter_append, List.map_append]
      cases g : keep i <;> simp [g]
    refine turn i σ H' (fun v σ2 H4 => ∃ ys, H4 p = some (.lst ys) ∧ ys.length < sizeLine ∧ (Pσ σ2 ∧ SameX p (upd H0 p (.lst [])) (upd H4 p (.lst (ys ++ [v]))) ∧ ∃ vs, upd H4 p (.lst (ys ++ [v])) p = some (.lst vs) ∧ vs.length ≤ i + 1 ∧ Reps z (upd H4 p (.lst (ys ++ [v]))) vs (((List.range (i + 1)).filter keep).map dat))) _ hlt hP (up hS) (fun hk σ2 v H4 hP2 hS2 R2 => ?_) fun hk σ2 H4 hP2 hS2 => ?_
    · have h4 := hS2 _ _ hv
      have big : (100000 : Nat) < sizeLine := by rw [sizeLine_eq]; decide
      refine ⟨vs, h4, by omega, hP2, (hS.trans hS2.x).upd, vs ++ [v], upd_same, by simp; omega, ?_⟩
      refine Reps.updL h4 ?_ (nls _)
      rw [er, hk]
      exact (R.mono hS2.x).append (.cons R2 .nil)
    · refine ⟨hP2, hS.trans hS2.x, vs, hS2 _ _ hv, by omega, ?_⟩
      rw [er, hk]
      simpa using R.mono hS2.x
  · have e : i = n := by omega
    subst e
    exact .inl ⟨ok.stop H hS, hQ σ H vs (up hS) hv R⟩
abbrev mk0 : Mk := (⟨#[]⟩, none)
theorem rep_mk {z : Addr} {H : Hp} {v : V} {m : Mk} (r : Rep z H v (mkD m)) : ∃ a u, v = .ref a ∧ a ≠ z ∧ H a = some (.tup [.str m.1, u]) ∧ m.1.length ≤ 1000 ∧ Rep z H u (mkOD m.2) := by
  cases r with
  | tup h hz r =>
    cases r with
    | cons r1 r =>
      cases r with
      | cons r2 r =>
        cases r
        cases r1 with
        | str _ h1 => exact ⟨_, _, rfl, hz, h, h1, r2⟩
theorem reps_mk {z : Addr} {H : Hp} {xs : List V} {ms : List Mk} {i : Nat} (r : Reps z H xs (ms.map mkD)) (hi : i < ms.length) : Rep z H (xs.getD i .non) (mkD (ms.getD i mk0)) := by
  have := r.get (i := i) (by simpa using hi)
  simpa [hi] using this
section
variable {P : Program} {w : World} {K : PySem.W.Frag} {mg : Str → Option Value} {base : Heap}
end
end T1
namespace T1
open PySem L2
theorem scNum : FnScope ["thing", "bound"] ["thing", "bound"] (defScope sIsNumberBelow) := ⟨rfl, rfl, rfl, by decide +kernel, rfl, by decide +kernel, by decide +kernel⟩
def inN (i n : Int) : Bool := decide (0 ≤ i) && decide (i < n)
inductive spNumG : List V → Hp → VK → XK → Prop where
  | mk {vs : List V} {H : Hp} {Q : VK} {E : XK} (i n : Int) (c1 : vs = [.int i, .int n]) (c4 : Q (.bl (inN i n)) H) : spNumG vs H Q E
abbrev tgAt (b : Bk) (t : Int) : Tg := b.getD t.toNat tg0
abbrev drAt (b : Bk) (t i : Int) : Dr := (tgAt b t).2.getD i.toNat dr0
def isDr (b : Bk) (t i : Int) : Bool := inN t b.length && inN i (tgAt b t).2.length
inductive spRoom (CD : Addr) : List V → Hp → VK → XK → Prop where
  | mk {vs : List V} {H : Hp} {Q : VK} {E : XK} (z v b : _) (t i : Int) (c1 : vs = [v, .int t, .int i]) (c2 : Bag z H) (c3 : Rep z H v (bkD b)) (c4 : BkOk b)
    (q : isDr b t i = true → ∀ p H', Same H H' → H p = none → H' p = some (.tup [.int (drAt b t i).2.1, .str (drAt b t i).2.2]) → Q (.ref p) H') (e : isDr b t i = false → E (.ref CD) none H) : spRoom CD vs H Q E
section
variable {P : Program} {w : World} {K : PySem.W.Frag} {mg : Str → Option Value} {base : Heap}
theorem ok_numG {f : Addr} {fd : FuncData} (F : Fun K "is_number_below" "is_number_below" sIsNumberBelow f fd) (T : TxtB mg) : FnOk P w K mg base CX0 1 f fd ["thing", "bound"] spNumG := by
  refine F.ok scNum (fun vs H Q E h => ?_) (fun cdv A outer s H vs Q E hr h => ?_)
  · obtain ⟨i, n, rfl, _⟩ := h
    rfl
  · obtain ⟨i, n, rfl, k⟩ := h
    refine ⟨_, pss_cons (ps_if (PW.pt (pw_or (pt_not (pt_val (pe_isi T.isinst T.int b_int (pv 0)))) (pw_or1 (pt_val (pe_isi T.isinst T.bool b_bool (pv 0)))))) (pss_one (ps_ret pe_bl)) pss_nil)
      (pss_one (ps_ret (pe_chain op_le op_lt pe_int (pv 0) (pv 1)))), ?_⟩
    dsimp only [cxOf, Cx.nox, Cx.wish]
    refine ⟨_, rfl, _, _, _, _, rfl, .int i, kit_int K (.int i), _, rfl, ?_⟩
    refine iteF ⟨_, rfl, _, _, _, _, rfl, .int i, kit_bool K (.int i), _, rfl, iteF ?_⟩
    refine ⟨_, rfl, _, _, rfl, rfl, _, rfl, ?_⟩
    unfold inN at k
    refine ite2 (fun g => ?_) (fun g => ?_)
    · rw [g] at k
      exact ⟨_, rfl, _, _, rfl, rfl, k⟩
    · rw [Bool.eq_false_iff.mpr g] at k
      exact k
theorem scRoom : FnScope ["book", "tongue", "number", "escape", "doors", "opening", "inner", "close"] ["book", "tongue", "number"] (defScope sRoomBehind) := ⟨rfl, rfl, rfl, by decide +kernel, rfl, by decide +kernel, by decide +kernel⟩
set_option maxHeartbeats 0 in
theorem ok_room {f f1 CD : Addr} {fd fd1 : FuncData} (F : Fun K "room_behind" "room_behind" sRoomBehind f fd) (T : TxtB mg) (hx : PySem.W.excIn K CD bmVE "ValueError.__new__" = true) (hD : mg "NoDoor" = some (.ref CD))
    (k1 : PySem.W.keepIn K (.ref f1) = true) (b1 : Binds K fd1 ["thing", "bound"] []) (m1 : mg "is_number_below" = some (.ref f1)) (G1 : FnOk P w K mg base CX0 1 f1 fd1 ["thing", "bound"] spNumG) : FnOk P w K mg base (CXE P w) 2 f fd ["book", "tongue", "number"] (spRoom CD) := by
  refine F.okX scRoom (fun vs H Q E h => ?_) (fun cdv A outer s H vs Q E hr h => ?_)
  · obtain ⟨z, v, b, t, i, rfl, _⟩ := h
    rfl
  · obtain ⟨z, v, b, t, i, rfl, hB, R0, hok, q, e⟩ := h
    obtain ⟨a, xs, rfl, haz, ha, hxl, R⟩ := rep_book R0
    obtain ⟨hb1, hb6, htok, _⟩ := hok
    have nd := scRoom.nd
    have big := big1000
    refine ⟨_, pss_cons (ps_if (pt_not (pt_val (pe_call G1 hr rfl m1 k1 b1 .nil pass0 (pa_cons (pv 1) (pa_cons (pe_callB call_len_seq (by rfl) T.len b_len (pa_cons (pv 0) pa_nil)) pa_nil))))) (pss_one (ps_raise hx rfl rfl hD (pa_cons pe_str pa_nil) rz_fn)) pss_nil)
      (pss_cons (ps_asg (pe_ix ix_tup (pv 0) (pv 1) (fun _ _ => rfl)) (pg_tup rfl (pgs_cons (pg_name (i := 3) nd rfl (Or.inl rfl)) (pgs_cons (pg_name (i := 4) nd rfl (Or.inl rfl)) pgs_nil))))
      (pss_cons (ps_if (pt_not (pt_val (pe_call G1 hr rfl m1 k1 b1 .nil pass0 (pa_cons (pv 2) (pa_cons (pe_callB call_len_seq (by rfl) T.len b_len (pa_cons (pv 4) pa_nil)) pa_nil))))) (pss_one (ps_raise hx rfl rfl hD (pa_cons pe_str pa_nil) rz_fn)) pss_nil)
      (pss_cons (ps_asg (pe_ix ix_tup (pv 4) (pv 2) (fun _ _ => rfl)) (pg_tup rfl (pgs_cons (pg_name (i := 5) nd rfl (Or.inl rfl)) (pgs_cons (pg_name (i := 6) nd rfl (Or.inl rfl)) (pgs_cons (pg_name (i := 7) nd rfl (Or.inl rfl)) pgs_nil)))))
      (pss_one (ps_ret (pe_tup (pa_cons (pv 6) (pa_cons (pv 7) pa_nil)))))))), ?_⟩
    dsimp only [cxOf]
    unfold isDr at q e
    refine ⟨_, rfl, _, rfl, a, xs, rfl, .inr (SqT.of ha), t, xs.length, rfl, _, rfl, ?_⟩
    rw [show (xs.length : Int) = (b.length : Int) by omega]
    cases g : inN t b.length with
    | false =>
      refine iteT ?_
      exact ⟨by simp [sizeLine_eq], e (by rw [g]; rfl)⟩
    | true =>
      refine iteF ?_
      rw [g] at q e
      unfold inN at g
      rw [Bool.and_eq_true] at g
      have g0 := of_decide_eq_true g.1
      have g1 := of_decide_eq_true g.2
      obtain ⟨tN, rfl⟩ : ∃ j : Nat, t = (j : Int) := ⟨t.toNat, by omega⟩
      have htl : tN < b.length := by omega
      obtain ⟨c, d, ys, ec, hcz, hdz, hc, hd, hyl, Ry⟩ := rep_tongue (reps_tongue (b := b) (i := tN) R htl)
      have exv : xs[tN]? = some (.ref c) := by
        have h1 : tN < xs.length := by omega
        have h2 : xs.getD tN .non = xs[tN] := by simp [h1]
        rw [List.getElem?_eq_getElem h1, ← h2, ec]
      have hyl : ys.length = (tgAt b tN).2.length := hyl
      have Ry : Reps z H ys ((tgAt b tN).2.map drD) := Ry
      refine ⟨_, rfl, _, rfl, a, xs, tN, _, rfl, rfl, SqT.of ha, atI_nat exv, c, _, rfl, SqT.of hc, rfl, _, _, rfl, _, _, rfl, rfl, ?_⟩
      refine ⟨_, rfl, _, rfl, d, ys, rfl, .inr (SqT.of hd), i, ys.length, rfl, _, rfl, ?_⟩
      rw [show (ys.length : Int) = ((tgAt b tN).2.length : Int) by omega]
      cases g2 : inN i (tgAt b tN).2.length with
      | false =>
        refine iteT ?_
        exact ⟨by simp [sizeLine_eq], e (by rw [g2]; rfl)⟩
      | true =>
        refine iteF ?_
        rw [g2] at q
        unfold inN at g2
        rw [Bool.and_eq_true] at g2
        have g3 := of_decide_eq_true g2.1
        have g4 := of_decide_eq_true g2.2
        obtain ⟨iN, rfl⟩ : ∃ j : Nat, i = (j : Int) := ⟨i.toNat, by omega⟩
        have hil : iN < (tgAt b tN).2.length := by omega
        obtain ⟨qd, e2, hqz, hqd⟩ := rep_door (reps_door (ds := (tgAt b tN).2) (i := iN) Ry hil)
        have eyv : ys[iN]? = some (.ref qd) := by
          have h1 : iN < ys.length := by omega
          have h2 : ys.getD iN .non = ys[iN] := by simp [h1]
          rw [List.getElem?_eq_getElem h1, ← h2, e2]
        refine ⟨_, rfl, _, rfl, d, ys, iN, _, rfl, rfl, SqT.of hd, atI_nat eyv, qd, _, rfl, SqT.of hqd, rfl, _, _, rfl, _, _, rfl, _, _, rfl, rfl, ?_⟩
        exact ⟨_, rfl, _, rfl, by show (2 : Nat) ≤ _; omega, fun p np => q rfl p _ (Same.new np) np upd_same⟩
theorem scPut : FnScope ["book", "tongue", "number", "text", "inner", "close", "escape", "ways", "marks", "written", "sign"] ["book", "tongue", "number", "text"] (defScope sPutIn) := ⟨rfl, rfl, rfl, by decide +kernel, rfl, by decide +kernel, by decide +kernel⟩
end
end T1
namespace T1
open PySem L2
def couldF (ms : List Str) (r : Str) : Bool := ms.any fun m => stAt r m 0 || stAt m r 0
def needC (esc : Str) (ms : List Str) (w : Str) (c : Nat) : Bool := decide ((⟨#[c]⟩ : Str) = esc) || couldF ms (⟨#[c]⟩ ++ w)
def putW (esc : Str) (ms : List Str) (close : Str) : List Nat → Str
  | [] => close
  | c :: r => if needC esc ms (putW esc ms close r) c = true then esc ++ (⟨#[c]⟩ ++ putW esc ms close r) else ⟨#[c]⟩ ++ putW esc ms close r
def needE (esc : Str) (ms : List Str) (close : Str) : List Nat → Bool
  | [] => false
  | c :: r => needE esc ms close r || needC esc ms (putW esc ms close r) c
def inMarks (b : Bk) (inner : Int) (close : Str) : List Str := close :: opensOf (b.getD inner.toNat tg0).2
theorem putW_len (esc : Str) (ms : List Str) (close : Str) (he : esc.length ≤ 1) : ∀ l : List Nat, (putW esc ms close l).length ≤ close.length + 2 * l.length
  | [] => Nat.le_refl _
  | c :: r => by
    have ih := putW_len esc ms close he r
    have h1 : (⟨#[c]⟩ : Str).length = 1 := rfl
    unfold putW
    split
    · rw [str_len_append, str_len_append, List.length_cons]; omega
    · rw [str_len_append, List.length_cons]; omega
theorem needE_drop {esc : Str} {ms : List Str} {close : Str} : ∀ (l : List Nat) (k : Nat), needE esc ms close (l.drop k) = true → needE esc ms close l = true
  | l, 0, h => h
  | [], k + 1, h => by simp at h; exact h
  | c :: r, k + 1, h => by
    have := needE_drop r k h
    show (needE esc ms close r || _) = true
    rw [this]; rfl
theorem esc_le1 {t : Tg} (h : escD (.str t.1) = true) : t.1.length ≤ 1 := by
  unfold escD at h
  rw [Bool.and_eq_true] at h
  exact of_decide_eq_true h.1
theorem poss_in (b : Bk) (inner : Int) (close : Str) : (possL b [((0 : Int), inner, close)]).map (·.1) = inMarks b inner close := by
  unfold possL inMarks opensOf lastL tongueL
  simp
theorem drop_rev {l : List Nat} {i c : Nat} (hi : i < l.length) (hc : l[l.length - 1 - i]? = some c) : l.drop (l.length - (i + 1)) = c :: l.drop (l.length - i) := by
  have h1 : l.length - (i + 1) < l.length := by omega
  rw [List.drop_eq_getElem_cons h1]
  have e1 : l.length - (i + 1) + 1 = l.length - i := by omega
  have e2 : l[l.length - (i + 1)] = c := by
    have e3 : l.length - 1 - i = l.length - (i + 1) := by omega
    rw [e3, List.getElem?_eq_getElem h1] at hc
    exact Option.some.inj hc
  rw [e1, e2]
inductive spCould : List V → Hp → VK → XK → Prop where
  | mk {vs : List V} {H : Hp} {Q : VK} {E : XK} (p : Addr) (ms : List Str) (r : Str) (c1 : vs = [.ref p, .str r]) (c2 : H p = some (.lst (ms.map V.str))) (c3 : ms.length ≤ 100) (q : ∀ H', Same H H' → Q (.bl (couldF ms r)) H') : spCould vs H Q E
section
variable {P : Program} {w : World} {K : PySem.W.Frag} {mg : Str → Option Value} {base : Heap}
theorem scCould : FnScope ["marks", "rest"] ["marks", "rest"] (defScope sCouldFit) := ⟨rfl, rfl, rfl, by decide +kernel, rfl, by decide +kernel, by decide +kernel⟩
theorem ndMRp : (["mark", "rest"] : List Str).Nodup := by decide +kernel
set_option maxHeartbeats 0 in
theorem ok_could {f : Addr} {fd : FuncData} (F : Fun K "could_fit" "could_fit" sCouldFit f fd) (T : TxtB mg) : FnOk P w K mg base CX0 1 f fd ["marks", "rest"] spCould := by
  refine F.ok scCould (fun vs H Q E h => ?_) (fun cdv A outer s H vs Q E hr h => ?_)
  · obtain ⟨p, ms, r, rfl, _⟩ := h
    rfl
  · obtain ⟨p, ms, r, rfl, hp, hml, k⟩ := h
    refine ⟨_, pss_one (ps_ret (pe_callB (call_any rfl) (by rfl) T.any_ b_any (pa_cons (pe_comp1 (N' := ["mark", "rest"]) (js := [none, some 1]) rfl rfl (blk_of (defScope sCouldFit) (by decide +kernel)) ⟨rfl, Or.inr (Or.inl rfl), rfl, trivial⟩ (pi_list (pv 0))
      (fun cl s H fp => pg_name (i := 0) ndMRp rfl (Or.inl rfl)) (fun cl s H fp => pts_nil)
      (fun cl s H fp => pe_or (pe_bmB PySem.F.plainAttrs_str PySem.F.slot_str_startswith PySem.F.type_str_startswith mt_startswith (pv 1) (pa_cons (pv 0) pa_nil)) (pe_one (pe_bmB PySem.F.plainAttrs_str PySem.F.slot_str_startswith PySem.F.type_str_startswith mt_startswith (pv 0) (pa_cons (pv 1) pa_nil))))) pa_nil))), ?_⟩
    dsimp only [cxOf, Cx.nox, Cx.wish]
    refine ⟨_, rfl, p, rfl, ⟨_, SqL.of hp⟩, fun pC npC => ?_⟩
    have hpC : p ≠ pC := ne_of_none hp npC
    refine loop_new (fun j => some (V.bl (stAt r (ms.getD j ⟨#[]⟩) 0 || stAt (ms.getD j ⟨#[]⟩) r 0))) (fun σ => ∃ u, σ = [u, some (.str r)]) ⟨none, rfl⟩ npC (by rw [List.length_map]; omega) (itok_lst (xs := ms.map V.str) (by rw [upd_ne hpC]; exact hp) hpC) (fun j σ H4 C hj ⟨u, hu⟩ s4 hC => ?_) (fun σ H4 s4 hC4 => ?_)
    · subst hu
      have hj2 : j < ms.length := by rw [List.length_map] at hj; exact hj
      have ei : (ms.map V.str).getD j .non = V.str (ms.getD j ⟨#[]⟩) := by simp [hj2]
      rw [ei]
      dsimp only [tYes, gName]
      rw [if_pos rfl]
      refine ⟨_, rfl, rfl, _, rfl, r, _, rfl, rfl, _, rfl, ?_⟩
      generalize ms.getD j ⟨#[]⟩ = m at *
      refine ite2 (fun g => ?_) (fun g => ?_)
      · rw [g] at hC
        exact hC _ _ ⟨_, rfl⟩ (Same.refl _)
      · rw [Bool.eq_false_iff.mpr g] at hC
        exact ⟨_, rfl, rfl, _, rfl, m, r, rfl, rfl, hC _ _ ⟨_, rfl⟩ (Same.refl _)⟩
    · rw [flatN_map, List.length_map] at hC4
      have e : (List.range ms.length).map (fun j => V.bl (stAt r (ms.getD j ⟨#[]⟩) 0 || stAt (ms.getD j ⟨#[]⟩) r 0)) = (ms.map fun m => stAt r m 0 || stAt m r 0).map V.bl := by
        refine List.ext_getElem (by simp) fun i h1 h2 => ?_
        simp at h1
        simp [h1]
      rw [e] at hC4
      refine ⟨pC, _, rfl, SqL.of hC4, ?_⟩
      have e2 : (ms.map fun m => stAt r m 0 || stAt m r 0).any id = couldF ms r := by
        unfold couldF
        rw [List.any_map]
        rfl
      rw [e2]
      exact k _ s4
inductive spPut (CW : Addr) : List V → Hp → VK → XK → Prop where
  | mk {vs : List V} {H : Hp} {Q : VK} {E : XK} (z v b x : _) (t i : Int) (esc close : Str) (inner : Int) (c1 : vs = [v, .int t, .int i, .str x]) (c2 : Bag z H) (c3 : Rep z H v (bkD b)) (c4 : BkOk b) (c5 : isDr b t i = true) (c6 : x.length ≤ 20000)
    (d1 : inner = (drAt b t i).2.1) (d2 : close = (drAt b t i).2.2) (d3 : esc = (b.getD inner.toNat tg0).1)
    (q : (esc ≠ Str.ofString "" ∨ needE esc (inMarks b inner close) close x.cps.toList = false) → ∀ H', Same H H' → Q (.str (cutS (putW esc (inMarks b inner close) close x.cps.toList) none (some (((putW esc (inMarks b inner close) close x.cps.toList).length : Int) - (close.length : Int))))) H')
    (e : esc = Str.ofString "" → needE esc (inMarks b inner close) close x.cps.toList = true → ∀ H', Same H H' → E (.ref CW) none H') : spPut CW vs H Q E
theorem ndMDP : (["mark", "door"] : List Str).Nodup := by decide +kernel
set_option maxHeartbeats 0 in
theorem ok_put {f f1 f2 f3 CD CW : Addr} {fd fd1 fd2 fd3 : FuncData} (F : Fun K "put_in" "put_in" sPutIn f fd) (T : TxtB mg) (hrev : mg "reversed" = none) (hx : PySem.W.excIn K CW bmVE "ValueError.__new__" = true) (hW : mg "NoWay" = some (.ref CW))
    (k1 : PySem.W.keepIn K (.ref f1) = true) (b1 : Binds K fd1 ["book", "tongue", "number"] []) (m1 : mg "room_behind" = some (.ref f1)) (G1 : FnOk P w K mg base (CXE P w) 2 f1 fd1 ["book", "tongue", "number"] (spRoom CD))
    (k2 : PySem.W.keepIn K (.ref f2) = true) (b2 : Binds K fd2 ["book", "doors"] []) (m2 : mg "possible_marks" = some (.ref f2)) (G2 : FnOk P w K mg base CX0 2 f2 fd2 ["book", "doors"] spPoss)
    (k3 : PySem.W.keepIn K (.ref f3) = true) (b3 : Binds K fd3 ["marks", "rest"] []) (m3 : mg "could_fit" = some (.ref f3)) (G3 : FnOk P w K mg base CX0 1 f3 fd3 ["marks", "rest"] spCould) : FnOk P w K mg base (CXE P w) 3 f fd ["book", "tongue", "number", "text"] (spPut CW) := by
  refine F.okX scPut (fun vs H Q E h => ?_) (fun cdv A outer s H vs Q E hr h => ?_)
  · obtain ⟨z, v, b, x, t, i, esc, close, inner, rfl, _⟩ := h
    rfl
  · obtain ⟨z, v, b, x, t, i, esc, close, inner, rfl, hB, R0, hok, hdr, hxl, d1, d2, d3, q, e⟩ := h
    have nd := scPut.nd
    have hr1 : Room 1 _ := hr.mono (by decide)
    refine ⟨_, pss_cons (ps_asg (pe_call G1 hr rfl m1 k1 b1 .nil pass_fn (pa_cons (pv 0) (pa_cons (pv 1) (pa_cons (pv 2) pa_nil)))) (pg_tup rfl (pgs_cons (pg_name (i := 4) nd rfl (Or.inl rfl)) (pgs_cons (pg_name (i := 5) nd rfl (Or.inl rfl)) pgs_nil))))
      (pss_cons (ps_asg (pe_ix ix_tup (pv 0) (pv 4) (fun _ _ => rfl)) (pg_tup rfl (pgs_cons (pg_name (i := 6) nd rfl (Or.inl rfl)) (pgs_cons (pg_name (i := 7) nd rfl (Or.inl rfl)) pgs_nil))))
      (pss_cons (ps_nox (ps_setcomp1 (i := 8) (N' := ["mark", "door"]) (js := [none, none]) rfl rfl nd rfl (Or.inl rfl) (blk_of (defScope sPutIn) (by decide +kernel)) trivial
        (pi_list (pe_call G2 hr rfl m2 k2 b2 .nil pass0 (pa_cons (pv 0) (pa_L (pe_lst (pa_T (pe_tup (pa_cons (pv 4) (pa_cons (pv 5) pa_nil))) pa_nil)) pa_nil))))
        (fun cl s H fp => pg_tupB 2 rfl (pgs_cons (pg_name (i := 0) ndMDP rfl (Or.inl rfl) (Or.inr rfl)) (pgs_cons (pg_name (i := 1) ndMDP rfl (Or.inl rfl) (Or.inr rfl)) pgs_nil))) (fun cl s H fp => pts_nil) (fun cl s H fp => pv 0)))
      (pss_cons (ps_set (i := 9) nd rfl (Or.inl rfl) (pv 5))
      (pss_cons (ps_forX (pi_revS rfl hrev (pa_cons (pv 3) pa_nil)) (pg_name (i := 10) nd rfl (Or.inl rfl))
        (pss_cons (ps_set (i := 9) nd rfl (Or.inl rfl) (pe_op op_add_str (pv 10) (pv 9)))
        (pss_one (ps_if (PW.pt (pw_or (pt_cmpR op_eq (pv 10) (pv 6) (nomark _)) (pw_or1 (pt_val (pe_call G3 hr1 rfl m3 k3 b3 .nil pass0 (pa_cons (pv 8) (pa_cons (pv 9) pa_nil))))))) 
          (pss_cons (ps_if (pt_cmpR op_eq (pv 6) pe_str (nomark _)) (pss_one (ps_raise hx rfl rfl hW (pa_cons pe_str pa_nil) rz_fly)) pss_nil)
          (pss_one (ps_set (i := 9) nd rfl (Or.inl rfl) (pe_op op_add_str (pv 6) (pv 9))))) pss_nil))))
      (pss_one (ps_ret (pe_slice sl_str (pv 9) po_none (po_some (pe_op op_sub (pe_callB call_len_str (by rfl) T.len b_len (pa_cons (pv 9) pa_nil)) (pe_callB call_len_str (by rfl) T.len b_len (pa_cons (pv 5) pa_nil))))))))))), ?_⟩
    dsimp only [cxOf, Cx.nox, Cx.wish]
    have big2 : (100000 : Nat) ≤ sizeLine := by rw [sizeLine_eq]; decide
    obtain ⟨hb1, hb6, htok, _⟩ := id hok
    have hdr' := hdr
    unfold isDr inN at hdr'
    simp only [Bool.and_eq_true, decide_eq_true_eq] at hdr'
    obtain ⟨⟨g0, g1⟩, g2, g3⟩ := hdr'
    have g4 : t.toNat < b.length := by omega
    have g5 : i.toNat < (tgAt b t).2.length := by omega
    have hdok : DrOk b.length (drAt b t i) := (htok _ (getD_mem tg0 g4)).2.2 _ (getD_mem dr0 g5)
    obtain ⟨_, ⟨hi0, hi1⟩, hcm⟩ := hdok
    rw [← d1] at hi0 hi1
    rw [← d2] at hcm
    have hcl := markS_len hcm
    refine ⟨_, rfl, _, rfl, _, rfl, z, v, b, t, i, rfl, hB, R0, hok, fun _ p H1 s1 np hp => ?_, fun g => by (rw [hdr] at g; cases g)⟩
    rw [← d1, ← d2] at hp
    refine ⟨p, _, rfl, SqT.of hp, rfl, _, _, rfl, _, _, rfl, rfl, ?_⟩
    have hB1 := hB.same s1
    have R1 := R0.mono s1.x (z := z)
    obtain ⟨a, xs, rfl, haz, ha, hxl2, R⟩ := rep_book R1
    obtain ⟨iN, rfl⟩ : ∃ j : Nat, inner = (j : Int) := ⟨inner.toNat, by omega⟩
    have hil : iN < b.length := by omega
    obtain ⟨c, d, ys, ec, hcz, hdz, hc, hd, hyl, Ry⟩ := rep_tongue (reps_tongue (b := b) (i := iN) R hil)
    have exv : xs[iN]? = some (.ref c) := by
      have h1 : iN < xs.length := by omega
      have h2 : xs.getD iN .non = xs[iN] := by simp [h1]
      rw [List.getElem?_eq_getElem h1, ← h2, ec]
    have hc : H1 c = some (.tup [.str (b.getD iN tg0).1, .ref d]) := hc
    have d3 : esc = (b.getD iN tg0).1 := d3
    rw [← d3] at hc
    refine ⟨_, rfl, _, rfl, a, xs, iN, _, rfl, rfl, SqT.of ha, atI_nat exv, c, _, rfl, SqT.of hc, rfl, _, _, rfl, _, _, rfl, rfl, ?_⟩
    have hel : esc.length ≤ 1 := by rw [d3]; exact esc_le1 (htok _ (getD_mem tg0 hil)).1
    -- the marks
    refine ⟨_, rfl, _, rfl, _, rfl, by show (2 : Nat) ≤ _; omega, fun pt npt => ⟨by show (1 : Nat) ≤ _; omega, fun q0 nq0 => ?_⟩⟩
    have s2 := Same.new (o := .tup [.int iN, .str close]) npt
    have s3 := Same.new (o := .lst [.ref pt]) nq0
    have hpt : upd (upd H1 pt (.tup [.int iN, .str close])) q0 (.lst [.ref pt]) pt = some (.tup [.int iN, .str close]) := s3 _ _ upd_same
    have hptz : pt ≠ z := hB1.ne npt
    have s23 := s2.trans s3
    have hq0 : upd (upd H1 pt (.tup [.int iN, .str close])) q0 (.lst [.ref pt]) q0 = some (.lst [.ref pt]) := upd_same
    generalize upd (upd H1 pt (.tup [.int iN, .str close])) q0 (.lst [.ref pt]) = H3 at *
    have hB3 := hB1.same s23
    have R3 := R1.mono s23.x (z := z)
    have ldok : LdOk b [((0 : Int), (iN : Int), close)] := fun d' hd' => by
      rw [List.mem_singleton.mp hd']
      exact ⟨⟨hi0, hi1⟩, hcl.2, hcl.1⟩
    refine ⟨z, .ref a, b, q0, [((0 : Int), (iN : Int), close)], rfl, hB3, R3, hok, ⟨[.ref pt], hq0, .cons (.tup hpt hptz (.cons (.int _) (.cons (.str _ (by omega)) .nil))) .nil⟩, ldok, fun l ws H4 s4 nl hl RW => ?_⟩
    have hms := poss_in b (iN : Int) close
    have hpl : (possL b [((0 : Int), (iN : Int), close)]).length ≤ 7 := by
      have := congrArg List.length hms
      rw [List.length_map] at this
      rw [this]
      unfold inMarks opensOf
      rw [List.length_cons, List.length_map]
      have := (htok _ (getD_mem tg0 hil)).2.1
      show (b.getD iN tg0).2.length + 1 ≤ 7
      omega
    have hwl : ws.length = (possL b [((0 : Int), (iN : Int), close)]).length := by have := RW.length; simpa using this
    refine ⟨l, rfl, ⟨_, SqL.of hl⟩, fun pC npC => ?_⟩
    have hpC : l ≠ pC := ne_of_none hl npC
    refine loop_new (fun j => some (V.str ((possL b [((0 : Int), (iN : Int), close)]).getD j mk0).1)) (fun σ => ∃ u u', σ = [u, u']) ⟨none, none, rfl⟩ npC (by omega) (itok_lst (xs := ws) (by rw [upd_ne hpC]; exact hl) hpC) (fun j σ H5 C hj ⟨u, u', hu⟩ s5 hC => ?_) (fun σ H5 s5 hC5 => ?_)
    · subst hu
      have Rm := reps_mk (RW.mono s5.x (z := z)) (i := j) (by omega)
      obtain ⟨am, um, em, hamz, ham, hml, Rum⟩ := rep_mk Rm
      rw [em]
      refine ⟨am, _, rfl, SqT.of ham, rfl, _, _, rfl, _, _, rfl, rfl, ?_⟩
      dsimp only [tYes]
      rw [if_pos rfl]
      exact ⟨_, rfl, hC _ _ ⟨_, _, rfl⟩ (Same.refl _)⟩
    rw [flatN_map, hwl] at hC5
    have e5 : (List.range (possL b [((0 : Int), (iN : Int), close)]).length).map (fun j => V.str ((possL b [((0 : Int), (iN : Int), close)]).getD j mk0).1) = (inMarks b iN close).map V.str := by
      rw [← hms, List.map_map]
      refine List.ext_getElem (by simp) fun k h1 h2 => ?_
      simp at h1
      simp [h1]
    rw [e5] at hC5
    have hS5 := ((s1.trans s23).trans s4).trans s5
    clear hms e5 hwl RW hl npC hpC nl s4 s5 hpt hq0 s2 s3 s23 nq0 npt R3 hB3 hB1 R1 hp np s1
    have hml : (inMarks b iN close).length ≤ 100 := by
      unfold inMarks opensOf
      rw [List.length_cons, List.length_map]
      have := (htok _ (getD_mem tg0 hil)).2.1
      show (b.getD iN tg0).2.length + 1 ≤ 100
      omega
    generalize inMarks b iN close = ms at *
    refine ⟨_, rfl, ?_⟩
    have hsz : x.cps.size = x.cps.toList.length := by simp
    have hxn : x.cps.toList.length ≤ 20000 := by rw [← hsz]; exact hxl
    refine ⟨_, rfl, x, rfl, by omega, for_revS (fun k σ H6 => ∃ u10, σ = [some (.ref a), some (.int t), some (.int i), some (.str x), some (.int iN), some (.str close), some (.str esc), some (.ref d), some (.ref pC), some (.str (putW esc ms close (x.cps.toList.drop (x.cps.toList.length - k)))), u10] ∧ Same H5 H6 ∧ (esc = Str.ofString "" → needE esc ms close (x.cps.toList.drop (x.cps.toList.length - k)) = false)) ⟨none, ?_, Same.refl _, fun _ => ?_⟩ ?_ ?_⟩
    · rw [Nat.sub_zero, List.drop_length]
      rfl
    · rw [Nat.sub_zero, List.drop_length]
      rfl
    · rintro k c' σ H6 hk hcc ⟨u10, rfl, s6, hne⟩
      have hk2 : k < x.cps.toList.length := by rw [← hsz]; exact hk
      have hcc2 : x.cps.toList[x.cps.toList.length - 1 - k]? = some c' := by
        rw [← hsz]
        rw [← hcc]
        simp
      have edr := drop_rev hk2 hcc2
      have hWl := putW_len esc ms close hel (x.cps.toList.drop (x.cps.toList.length - k))
      rw [List.length_drop] at hWl
      have eW : putW esc ms close (x.cps.toList.drop (x.cps.toList.length - (k + 1))) = if needC esc ms (putW esc ms close (x.cps.toList.drop (x.cps.toList.length - k))) c' = true then esc ++ (⟨#[c']⟩ ++ putW esc ms close (x.cps.toList.drop (x.cps.toList.length - k))) else ⟨#[c']⟩ ++ putW esc ms close (x.cps.toList.drop (x.cps.toList.length - k)) := by rw [edr]; rfl
      have eN : needE esc ms close (x.cps.toList.drop (x.cps.toList.length - (k + 1))) = (needE esc ms close (x.cps.toList.drop (x.cps.toList.length - k)) || needC esc ms (putW esc ms close (x.cps.toList.drop (x.cps.toList.length - k))) c') := by rw [edr]; rfl
      have hnd := needE_drop (esc := esc) (ms := ms) (close := close) x.cps.toList (x.cps.toList.length - (k + 1))
      generalize x.cps.toList.drop (x.cps.toList.length - (k + 1)) = l1 at *
      generalize needE esc ms close (x.cps.toList.drop (x.cps.toList.length - k)) = nE at *
      generalize putW esc ms close (x.cps.toList.drop (x.cps.toList.length - k)) = W at *
      have l1' : (⟨#[c']⟩ : Str).length = 1 := rfl
      have hw1 : (⟨#[c']⟩ ++ W).length = 1 + W.length := str_len_append ..
      refine ⟨_, rfl, _, rfl, _, _, rfl, rfl, by omega, ?_⟩
      refine ⟨_, rfl, _, rfl, rfl, _, rfl, ite2 (fun g => ?_) (fun g => ?_)⟩
      · have hnc : needC esc ms W c' = true := by
          unfold needC
          have : (⟨#[c']⟩ : Str) = esc := by
            have := of_decide_eq_true g
            injection this
          rw [decide_eq_true this]; rfl
        refine iteT ?_
        refine ⟨_, rfl, rfl, _, rfl, ite2 (fun g2 => ?_) (fun g2 => ?_)⟩
        · have he : esc = Str.ofString "" := by
            have := of_decide_eq_true g2
            injection this
          exact ⟨by simp [sizeLine_eq], e he (hnd (by rw [eN, hnc, Bool.or_true])) _ (hS5.trans s6)⟩
        · refine ⟨_, rfl, _, rfl, _, _, rfl, rfl, by omega, some (.str ⟨#[c']⟩), ?_, s6, fun h => absurd (decide_eq_true (by rw [h])) g2⟩
          rw [eW, if_pos hnc]
          rfl
      · have hnc0 : needC esc ms W c' = couldF ms (⟨#[c']⟩ ++ W) := by
          unfold needC
          rw [decide_eq_false (fun q => g (decide_eq_true (by rw [q])))]; rfl
        refine ⟨_, rfl, _, rfl, pC, ms, _, rfl, s6 _ _ hC5, hml, fun H7 s7 => ⟨_, rfl, ite2 (fun g3 => ?_) (fun g3 => ?_)⟩⟩
        · have hnc : needC esc ms W c' = true := hnc0.trans g3
          have s67 := s6.trans s7
          refine ⟨_, rfl, rfl, _, rfl, ite2 (fun g2 => ?_) (fun g2 => ?_)⟩
          · have he : esc = Str.ofString "" := by
              have := of_decide_eq_true g2
              injection this
            exact ⟨by simp [sizeLine_eq], e he (hnd (by rw [eN, hnc, Bool.or_true])) _ (hS5.trans s67)⟩
          · refine ⟨_, rfl, _, rfl, _, _, rfl, rfl, by omega, some (.str ⟨#[c']⟩), ?_, s67, fun h => absurd (decide_eq_true (by rw [h])) g2⟩
            rw [eW, if_pos hnc]
            rfl
        · have hnc : needC esc ms W c' = false := hnc0.trans (Bool.eq_false_iff.mpr g3)
          refine ⟨some (.str ⟨#[c']⟩), ?_, s6.trans s7, fun h => ?_⟩
          · rw [eW, if_neg (by rw [hnc]; exact Bool.false_ne_true)]
            rfl
          · rw [eN, hne h, hnc]; rfl
    · rintro σ H6 ⟨u10, rfl, s6, hne⟩
      have hz : x.cps.toList.length - x.cps.size = 0 := by omega
      rw [hz, List.drop_zero] at hne ⊢
      have hWl := putW_len esc ms close hel x.cps.toList
      refine ⟨_, rfl, _, rfl, _, rfl, by omega, _, rfl, close, rfl, by omega, _, _, rfl, rfl, _, rfl, _, rfl, by omega, q ?_ H6 (hS5.trans s6)⟩
      by_cases c : esc = Str.ofString ""
      · exact .inr (hne c)
      · exact .inl c
end
end T1
namespace T1
open PySem L2
section
variable {P : Program} {w : World} {K : PySem.W.Frag} {mg : Str → Option Value} {base : Heap}
end
end T1
namespace T1
open PySem L2
theorem cut_extract {x : Str} {i k : Nat} (h : i + k ≤ x.length) : cutS x (some (i : Int)) (some ((i : Int) + (k : Int))) = ⟨x.cps.extract i (i + k)⟩ := by
  have e : ((i : Int) + (k : Int)) = ((i + k : Nat) : Int) := by omega
  rw [e]
  unfold cutS
  rw [HT.sIx_nat, HT.sIx_nat, Nat.min_eq_left h, Nat.min_eq_left (by omega)]
  congr 1
  apply Array.ext'
  simp [Array.toList_extract, List.extract_eq_drop_take]
theorem stAt_fit {x m : Str} {i : Nat} (hi : i ≤ x.length) : stAt x m i = fitAt x i m := by
  cases g : fitAt x i m with
  | true =>
    have hl := fit_len g hi
    have a := of_decide_eq_true g
    have a : cutS x (some (i : Int)) (some ((i : Int) + m.length)) = m := by injection a
    rw [cut_extract hl] at a
    have a2 : x.cps.extract i (i + m.length) = m.cps := congrArg Str.cps a
    unfold stAt Builtin.Str.subAt
    rw [decide_eq_true hl, a2]
    simp
  | false =>
    cases g2 : stAt x m i with
    | false => rfl
    | true =>
      exfalso
      unfold stAt Builtin.Str.subAt at g2
      rw [Bool.and_eq_true] at g2
      have hl := of_decide_eq_true g2.1
      have a2 : x.cps.extract i (i + m.length) = m.cps := by simpa using g2.2
      have : fitAt x i m = true := by
        unfold fitAt
        rw [cut_extract hl, a2]
        simp
      rw [g] at this
      cases this
theorem esc_free {b : Bk} (hb : BkOk b) {t : Tg} (ht : t ∈ b) {m : Str} (hm : m ∈ marksB b) {c : Nat} (hc : c ∈ m.cps.toList) : (⟨#[c]⟩ : Str) ≠ t.1 := fun e => by
  have h := hb.2.2.2
  unfold bookB at h
  simp only [Bool.and_eq_true, Bool.not_eq_true'] at h
  have h2 := h.1.2
  unfold escB at h2
  rw [List.any_eq_false] at h2
  have h3 := h2 m hm
  apply h3
  unfold escIn
  rw [List.any_eq_true]
  refine ⟨c, hc, ?_⟩
  rw [List.any_eq_true]
  exact ⟨t.1, List.mem_map_of_mem ht, by rw [e]; exact beq_self_eq_true _⟩
end T1
namespace L2
open PySem PySem.Spec PyProof.Rows
section
variable {P : Program} {w : World} {K : PySem.W.Frag} {mg : Str → Option Value} {base : Heap}
end
end L2
namespace T1
open PySem L2
section
variable {P : Program} {w : World} {K : PySem.W.Frag} {mg : Str → Option Value} {base : Heap}
end
end T1
namespace T1
open PySem L2
end T1
namespace T1
open PySem L2
theorem clip_list {α : Type} (l : List α) (i k : Nat) : (l.drop (min i l.length)).take (min (i + k) l.length - min i l.length) = (l.drop i).take k := by
  by_cases h : i ≤ l.length
  · rw [Nat.min_eq_left h]
    by_cases h2 : i + k ≤ l.length
    · rw [Nat.min_eq_left h2, Nat.add_sub_cancel_left]
    · rw [Nat.min_eq_right (by omega), List.take_of_length_le (by simp), List.take_of_length_le (by simp; omega)]
  · rw [Nat.min_eq_right (by omega), Nat.min_eq_right (by omega), List.drop_eq_nil_of_le (Nat.le_refl _), List.drop_eq_nil_of_le (by omega)]
    simp
theorem str_ext {a c : Str} (h : a.cps.toList = c.cps.toList) : a = c := by
  obtain ⟨⟨a⟩⟩ := a
  obtain ⟨⟨c⟩⟩ := c
  have h : a = c := h
  rw [h]
theorem len_list (x : Str) : x.cps.toList.length = x.length := by simp; rfl
theorem cut_list (x : Str) (i k : Nat) : (cutS x (some (i : Int)) (some ((i : Int) + (k : Int)))).cps.toList = (x.cps.toList.drop i).take k := by
  unfold cutS
  have e : ((i : Int) + (k : Int)) = ((i + k : Nat) : Int) := by omega
  rw [e, HT.sIx_nat, HT.sIx_nat]
  show ((x.cps.toList.drop (min i x.length)).take (min (i + k) x.length - min i x.length)) = _
  rw [← len_list]
  exact clip_list _ _ _
theorem fit_iff {x m : Str} {i : Nat} : fitAt x i m = true ↔ m.cps.toList <+: x.cps.toList.drop i := by
  unfold fitAt
  rw [decide_eq_true_iff, List.prefix_iff_eq_take, len_list]
  constructor
  · intro h
    have h : cutS x (some (i : Int)) (some ((i : Int) + m.length)) = m := by injection h
    rw [← cut_list, h]
  · intro h
    congr 1
    exact str_ext (by rw [cut_list, ← h])
end T1
namespace T1
open PySem L2
theorem app_list (a c : Str) : (a ++ c).cps.toList = a.cps.toList ++ c.cps.toList := by
  show (a.cps ++ c.cps).toList = _
  simp
theorem app_len (a c : Str) : (a ++ c).length = a.length + c.length := by rw [← len_list, app_list, List.length_append, len_list, len_list]
theorem st0_iff {x m : Str} : stAt x m 0 = true ↔ m.cps.toList <+: x.cps.toList := by
  rw [stAt_fit (Nat.zero_le _), fit_iff, List.drop_zero]
theorem one_list (c : Nat) : (⟨#[c]⟩ : Str).cps.toList = [c] := rfl
end T1
namespace T1
open PySem L2
theorem raw_iff {m w : List Nat} : m.take (w.take m.length).length = w.take m.length ↔ (m <+: w ∨ w <+: m) := by
  by_cases h : m.length ≤ w.length
  · have e : (w.take m.length).length = m.length := by rw [List.length_take]; omega
    rw [e, List.take_length]
    constructor
    · exact fun q => .inl (List.prefix_iff_eq_take.mpr q)
    · rintro (q | q)
      · exact List.prefix_iff_eq_take.mp q
      · have := q.length_le
        have e2 : w = m := q.eq_of_length (by omega)
        rw [e2, List.take_length]
  · have e : w.take m.length = w := List.take_of_length_le (by omega)
    rw [e]
    constructor
    · exact fun q => .inr (List.prefix_iff_eq_take.mpr q.symm)
    · rintro (q | q)
      · have := q.length_le
        omega
      · exact (List.prefix_iff_eq_take.mp q).symm
theorem any_cg : ∀ (l : List Str) (f g : Str → Bool), (∀ m ∈ l, f m = g m) → l.any f = l.any g
  | [], _, _, _ => rfl
  | m :: r, f, g, h => by rw [List.any_cons, List.any_cons, h m List.mem_cons_self, any_cg r f g fun m hm => h m (List.mem_cons_of_mem _ hm)]
section
variable (esc : Str) (ms : List Str) (close : Str)
def farG : List Nat → Nat
  | [] => 3
  | c :: r => if needC esc ms (putW esc ms close r) c = true then 0 else min 3 (farG r + 1)
def costG : List Nat → Nat
  | [] => 0
  | c :: r => if needC esc ms (putW esc ms close r) c = true then costG r + 1 else costG r
def markF (r : List Nat) (c : Nat) (far : Nat) (m : Str) : Bool := decide (m.cps.toList.take ((c :: r ++ close.cps.toList).take m.length).length = (c :: r ++ close.cps.toList).take m.length) && decide (min (m.length - 1) r.length ≤ far)
def freeB (r : List Nat) (c : Nat) (far : Nat) : Bool := !decide ((⟨#[c]⟩ : Str) = esc) && !(ms.any (markF close r c far))
end
section
variable {esc : Str} {ms : List Str} {close : Str}
theorem markF_mono {r : List Nat} {c f1 f2 : Nat} {m : Str} (h : f1 ≤ f2) (g : markF close r c f1 m = true) : markF close r c f2 m = true := by
  unfold markF at *
  rw [Bool.and_eq_true] at *
  exact ⟨g.1, decide_eq_true (Nat.le_trans (of_decide_eq_true g.2) h)⟩
theorem freeB_mono {r : List Nat} {c f1 f2 : Nat} (h : f1 ≤ f2) (g : freeB esc ms close r c f2 = true) : freeB esc ms close r c f1 = true := by
  unfold freeB at *
  rw [Bool.and_eq_true] at *
  refine ⟨g.1, ?_⟩
  cases e : ms.any (markF close r c f1) with
  | false => rfl
  | true =>
    obtain ⟨m, hm, q⟩ := List.any_eq_true.mp e
    have : ms.any (markF close r c f2) = true := List.any_eq_true.mpr ⟨m, hm, markF_mono h q⟩
    rw [this] at g
    exact absurd g.2 (by decide)
def Shape (esc : Str) (ms : List Str) (close : Str) (r : List Nat) : Prop :=
  ((putW esc ms close r).cps.toList = r ++ close.cps.toList ∧ farG esc ms close r = 3) ∨
    ∃ F t e, F < r.length ∧ farG esc ms close r = min 3 F ∧ esc.cps.toList = [e] ∧ (putW esc ms close r).cps.toList = r.take F ++ e :: t
theorem shape_of : ∀ r : List Nat, (esc.length = 1 ∨ needE esc ms close r = false) → Shape esc ms close r
  | [], _ => .inl ⟨rfl, rfl⟩
  | c :: r, ho => by
    have ho' : esc.length = 1 ∨ needE esc ms close r = false := ho.imp id fun g => by
      have g : (needE esc ms close r || _) = false := g
      exact (Bool.or_eq_false_iff.mp g).1
    have ih := shape_of r ho'
    cases hn : needC esc ms (putW esc ms close r) c with
    | true =>
      have he : esc.length = 1 := ho.elim id fun g => by
        have g : (needE esc ms close r || needC esc ms (putW esc ms close r) c) = false := g
        rw [hn, Bool.or_true] at g
        cases g
      obtain ⟨e, ee⟩ : ∃ e, esc.cps.toList = [e] := List.length_eq_one_iff.mp (by rw [len_list]; exact he)
      have e1 : putW esc ms close (c :: r) = esc ++ (⟨#[c]⟩ ++ putW esc ms close r) := by
        show (if _ then _ else _) = _
        rw [if_pos hn]
      refine .inr ⟨0, c :: (putW esc ms close r).cps.toList, e, Nat.succ_pos _, ?_, ee, ?_⟩
      · show (if _ then _ else _) = _
        rw [if_pos hn]
        rfl
      · rw [e1, app_list, app_list, one_list, ee]
        rfl
    | false =>
      have e1 : putW esc ms close (c :: r) = ⟨#[c]⟩ ++ putW esc ms close r := by
        show (if _ then _ else _) = _
        rw [if_neg (by rw [hn]; exact Bool.false_ne_true)]
      have e2 : farG esc ms close (c :: r) = min 3 (farG esc ms close r + 1) := by
        show (if _ then _ else _) = _
        rw [if_neg (by rw [hn]; exact Bool.false_ne_true)]
      rcases ih with ⟨h1, h2⟩ | ⟨F, t, e, h1, h2, h3, h4⟩
      · exact .inl ⟨by rw [e1, app_list, one_list, h1]; rfl, by rw [e2, h2]; rfl⟩
      · refine .inr ⟨F + 1, t, e, Nat.succ_lt_succ h1, by rw [e2, h2]; omega, h3, ?_⟩
        rw [e1, app_list, one_list, h4]
        rfl
theorem need_free {r : List Nat} {c : Nat} (hs : Shape esc ms close r) (hm : ∀ m ∈ ms, 1 ≤ m.length ∧ m.length ≤ 4 ∧ ∀ e, esc.cps.toList = [e] → ¬ e ∈ m.cps.toList) :
    needC esc ms (putW esc ms close r) c = !freeB esc ms close r c (farG esc ms close r) := by
  unfold needC freeB
  rw [Bool.not_and, Bool.not_not, Bool.not_not]
  congr 1
  unfold couldF
  have key : ∀ m ∈ ms, (stAt (⟨#[c]⟩ ++ putW esc ms close r) m 0 || stAt m (⟨#[c]⟩ ++ putW esc ms close r) 0) = markF close r c (farG esc ms close r) m := fun m hmm => by
    obtain ⟨l1, l4, hne⟩ := hm m hmm
    have hL : m.cps.toList.length = m.length := len_list m
    have hl : (stAt (⟨#[c]⟩ ++ putW esc ms close r) m 0 || stAt m (⟨#[c]⟩ ++ putW esc ms close r) 0) = true ↔ (m.cps.toList <+: c :: (putW esc ms close r).cps.toList ∨ c :: (putW esc ms close r).cps.toList <+: m.cps.toList) := by
      rw [Bool.or_eq_true, st0_iff, st0_iff, app_list, one_list]
      exact Iff.rfl
    have hr : markF close r c (farG esc ms close r) m = true ↔ ((m.cps.toList <+: c :: r ++ close.cps.toList ∨ c :: r ++ close.cps.toList <+: m.cps.toList) ∧ min (m.length - 1) r.length ≤ farG esc ms close r) := by
      unfold markF
      rw [Bool.and_eq_true, decide_eq_true_iff, decide_eq_true_iff, ← hL, raw_iff]
    refine Bool.eq_iff_iff.mpr (hl.trans (Iff.trans ?_ hr.symm))
    rcases hs with ⟨h1, h2⟩ | ⟨F, t, e, h1, h2, h3, h4⟩
    · rw [h1, h2]
      exact ⟨fun q => ⟨q, by omega⟩, fun q => q.1⟩
    · have hne := hne e h3
      rw [h2, h4]
      constructor
      · rintro (q | q)
        · have hF : m.length ≤ F + 1 := by
            rcases Nat.lt_or_ge (F + 1) m.length with g | g
            · exfalso
              obtain ⟨u, hu⟩ := q
              apply hne
              have e5 : (m.cps.toList ++ u)[F + 1]? = some e := by
                rw [hu, List.getElem?_cons_succ, List.getElem?_append_right (by rw [List.length_take]; omega), List.length_take]
                rw [show F - min F r.length = 0 by omega]
                rfl
              rw [List.getElem?_append_left (by rw [hL]; exact g)] at e5
              exact List.mem_of_getElem? e5
            · exact g
          have q2 : m.cps.toList <+: c :: r.take F := by
            have a1 : c :: r.take F <+: c :: (r.take F ++ e :: t) := ⟨e :: t, rfl⟩
            exact List.prefix_of_prefix_length_le q a1 (by rw [hL, List.length_cons, List.length_take]; omega)
          refine ⟨.inl (q2.trans ?_), by omega⟩
          exact ⟨r.drop F ++ close.cps.toList, by rw [List.cons_append, ← List.append_assoc, List.take_append_drop]; rfl⟩
        · exact absurd (q.subset (List.mem_cons_of_mem _ (List.mem_append_right _ List.mem_cons_self))) hne
      · rintro ⟨q, g⟩
        have hF : m.length ≤ F + 1 := by omega
        refine .inl ?_
        have q1 : m.cps.toList <+: c :: r ++ close.cps.toList := by
          rcases q with q | q
          · exact q
          · have := q.length_le
            rw [hL, List.length_append, List.length_cons] at this
            omega
        have a1 : c :: r.take F <+: c :: r ++ close.cps.toList := ⟨r.drop F ++ close.cps.toList, by rw [List.cons_append, ← List.append_assoc, List.take_append_drop]; rfl⟩
        have q2 : m.cps.toList <+: c :: r.take F := List.prefix_of_prefix_length_le q1 a1 (by rw [hL, List.length_cons, List.length_take]; omega)
        exact q2.trans ⟨e :: t, rfl⟩
  exact any_cg _ _ _ key
end
def OkKV (C F : Nat) (k v : Nat) : Prop := C < v ∨ (v = C ∧ F ≤ k)
section
variable {esc : Str} {ms : List Str} {close : Str} {r : List Nat} {c : Nat}
theorem ok_esc {k v : Nat} (h : OkKV (costG esc ms close r) (farG esc ms close r) k v) : OkKV (costG esc ms close (c :: r)) (farG esc ms close (c :: r)) 0 (v + 1) := by
  show OkKV (if _ then _ else _) (if _ then _ else _) _ _
  unfold OkKV at *
  by_cases g : needC esc ms (putW esc ms close r) c = true
  · rw [if_pos g, if_pos g]
    by_cases q : v = costG esc ms close r
    · exact .inr ⟨by rw [q], Nat.zero_le _⟩
    · exact .inl (by omega)
  · rw [if_neg g, if_neg g]
    exact .inl (by omega)
theorem ok_free {k v : Nat} (hn : needC esc ms (putW esc ms close r) c = !freeB esc ms close r c (farG esc ms close r)) (h : OkKV (costG esc ms close r) (farG esc ms close r) k v) (hf : freeB esc ms close r c k = true) : OkKV (costG esc ms close (c :: r)) (farG esc ms close (c :: r)) (Nat.min 3 (k + 1)) v := by
  show OkKV (if _ then _ else _) (if _ then _ else _) _ _
  unfold OkKV at *
  by_cases g : needC esc ms (putW esc ms close r) c = true
  · rw [if_pos g, if_pos g]
    rcases h with h | ⟨h1, h2⟩
    · by_cases q : v = costG esc ms close r + 1
      · exact .inr ⟨q, Nat.zero_le _⟩
      · exact .inl (by omega)
    · have := freeB_mono h2 hf
      rw [g, this] at hn
      cases hn
  · rw [if_neg g, if_neg g]
    rcases h with h | ⟨h1, h2⟩
    · exact .inl h
    · exact .inr ⟨h1, by show min 3 _ ≤ min 3 _; omega⟩
end
theorem cost_len {esc : Str} {ms : List Str} {close : Str} : ∀ l : List Nat, (esc.length = 1 ∨ needE esc ms close l = false) → (putW esc ms close l).length = close.length + l.length + costG esc ms close l
  | [], _ => rfl
  | c :: r, ho => by
    have ho' : esc.length = 1 ∨ needE esc ms close r = false := ho.imp id fun g => by
      have g : (needE esc ms close r || _) = false := g
      exact (Bool.or_eq_false_iff.mp g).1
    have ih := cost_len r ho'
    show (if _ then _ else _ : Str).length = close.length + (r.length + 1) + (if _ then _ else _)
    by_cases hn : needC esc ms (putW esc ms close r) c = true
    · have he : esc.length = 1 := ho.elim id fun g => by
        have g : (needE esc ms close r || needC esc ms (putW esc ms close r) c) = false := g
        rw [hn, Bool.or_true] at g
        cases g
      rw [if_pos hn, if_pos hn, app_len, app_len, he, ih]
      show 1 + (1 + _) = _
      omega
    · rw [if_neg hn, if_neg hn, app_len, ih]
      show 1 + _ = _
      omega
end T1
namespace T1
open PySem L2
def lawMarks (b : Bk) (D : Dr) : List Str := opensOf (b.getD D.2.1.toNat tg0).2 ++ [D.2.2]
inductive spInside : List V → Hp → VK → XK → Prop where
  | mk {vs : List V} {H : Hp} {Q : VK} {E : XK} (z v b : _) (qd : Addr) (D : Dr) (c1 : vs = [v, .ref qd]) (c3 : Rep z H v (bkD b)) (c4 : BkOk b) (c5 : H qd = some (.tup [.str D.1, .int D.2.1, .str D.2.2])) (c6 : 0 ≤ D.2.1 ∧ D.2.1 < b.length)
    (q : ∀ p r H', Same H H' → H p = none → H r = none → H' p = some (.lst [.str (b.getD D.2.1.toNat tg0).1, .ref r]) → H' r = some (.lst ((lawMarks b D).map V.str)) → Q (.ref p) H') : spInside vs H Q E
section
variable {P : Program} {w : World} {K : PySem.W.Frag} {mg : Str → Option Value} {base : Heap}
theorem scInside : FnScope ["book", "door", "mark", "inner", "close"] ["book", "door"] (defScope lInside) := ⟨rfl, rfl, rfl, by decide +kernel, rfl, by decide +kernel, by decide +kernel⟩
theorem ndO1 : (["one"] : List Str).Nodup := by decide +kernel
set_option maxHeartbeats 0 in
theorem ok_inside {f : Addr} {fd : FuncData} (F : Fun K "_law_inside" "_law_inside" lInside f fd) : FnOk P w K mg base CX0 1 f fd ["book", "door"] spInside := by
  refine F.ok scInside (fun vs H Q E h => ?_) (fun cdv A outer s H vs Q E hr h => ?_)
  · obtain ⟨z, v, b, qd, D, rfl, _⟩ := h
    rfl
  · obtain ⟨z, v, b, qd, D, rfl, R0, hok, hqd, hin, q⟩ := h
    obtain ⟨a, xs, rfl, haz, ha, hxl, R⟩ := rep_book R0
    obtain ⟨hb1, hb6, htok, _⟩ := hok
    have nd := scInside.nd
    refine ⟨_, pss_cons (ps_asg (pv 1) (pg_tup rfl (pgs_cons (pg_name (i := 2) nd rfl (Or.inl rfl)) (pgs_cons (pg_name (i := 3) nd rfl (Or.inl rfl)) (pgs_cons (pg_name (i := 4) nd rfl (Or.inl rfl)) pgs_nil)))))
      (pss_one (ps_ret (pe_lst (pa_cons (pe_ix ix_tup (pe_ix ix_tup (pv 0) (pv 3) (fun _ _ => rfl)) pe_int (fun _ _ => rfl)) (pa_B (pe_op op_cat (pe_comp1 (N' := ["one"]) (js := [none]) rfl rfl (blk_of (defScope lInside) (by decide +kernel)) trivial (pi_tup (pe_ix ix_tup (pe_ix ix_tup (pv 0) (pv 3) (fun _ _ => rfl)) pe_int (fun _ _ => rfl)))
        (fun cl s H fp => pg_name (i := 0) ndO1 rfl (Or.inl rfl)) (fun cl s H fp => pts_nil) (fun cl s H fp => pe_ix ix_tupB (pv 0) pe_int (fun _ _ => rfl))) (pe_lst (pa_cons (pv 4) pa_nil))) pa_nil))))), ?_⟩
    dsimp only [cxOf, Cx.nox, Cx.wish]
    have big2 : (100000 : Nat) ≤ sizeLine := by rw [sizeLine_eq]; decide
    obtain ⟨tN, eN⟩ : ∃ j : Nat, D.2.1 = (j : Int) := ⟨D.2.1.toNat, by omega⟩
    have htl : tN < b.length := by omega
    have etN : D.2.1.toNat = tN := by omega
    obtain ⟨c, d, ys, ec, hcz, hdz, hc, hd, hyl, Ry⟩ := rep_tongue (reps_tongue (b := b) (i := tN) R htl)
    have hyl : ys.length = (b.getD tN tg0).2.length := hyl
    have Ry : Reps z H ys ((b.getD tN tg0).2.map drD) := Ry
    have exv : xs[tN]? = some (.ref c) := by
      have h1 : tN < xs.length := by omega
      have h2 : xs.getD tN .non = xs[tN] := by simp [h1]
      rw [List.getElem?_eq_getElem h1, ← h2, ec]
    have few := (htok _ (getD_mem tg0 htl)).2.1
    refine ⟨_, rfl, qd, _, rfl, SqT.of hqd, rfl, _, _, rfl, _, _, rfl, _, _, rfl, rfl, ?_⟩
    rw [eN]
    refine ⟨_, rfl, _, rfl, a, xs, tN, _, rfl, rfl, SqT.of ha, atI_nat exv, c, _, 0, _, rfl, rfl, SqT.of hc, atI_nat (j := 0) rfl, ?_⟩
    refine ⟨_, rfl, _, rfl, a, xs, tN, _, rfl, rfl, SqT.of ha, atI_nat exv, c, _, 1, _, rfl, rfl, SqT.of hc, atI_nat (j := 1) rfl, d, rfl, ⟨_, SqT.of hd⟩, fun pC npC => ?_⟩
    have hdC : d ≠ pC := ne_of_none hd npC
    refine loop_new (fun j => some (V.str ((b.getD tN tg0).2.getD j dr0).1)) (fun σ => ∃ u, σ = [u]) ⟨none, rfl⟩ npC (by omega) (itok_tup (xs := ys) (by rw [upd_ne hdC]; exact hd) hdC) (fun j σ H3 C hj ⟨u, hu⟩ s3 hC => ?_) (fun σ H3 s3 hC3 => ?_)
    · subst hu
      obtain ⟨q2, e2, hqz2, hq2⟩ := rep_door (reps_door (ds := (b.getD tN tg0).2) (i := j) Ry (by omega))
      rw [e2]
      dsimp only [tYes, gName]
      rw [if_pos rfl]
      exact ⟨_, rfl, q2, _, 0, _, rfl, rfl, SqT.of (s3 _ _ hq2), atI_nat (j := 0) rfl, hC _ _ ⟨_, rfl⟩ (Same.refl _)⟩
    rw [flatN_map, hyl] at hC3
    have eop : (List.range (b.getD tN tg0).2.length).map (fun j => V.str ((b.getD tN tg0).2.getD j dr0).1) = (opensOf (b.getD tN tg0).2).map V.str := by
      unfold opensOf
      rw [List.map_map]
      refine List.ext_getElem (by simp) fun i h1 h2 => ?_
      simp at h1
      simp [h1]
    rw [eop] at hC3
    refine ⟨_, rfl, by show (1 : Nat) ≤ _; omega, fun l nl => ?_⟩
    have t4 := Same.new (o := .lst [V.str D.2.2]) nl
    refine ⟨pC, l, _, _, rfl, rfl, t4 _ _ hC3, upd_same, by rw [List.length_map]; unfold opensOf; rw [List.length_map]; show _ + 1 ≤ _; omega, fun r nr => ?_⟩
    have t5 := Same.new (o := .lst ((opensOf (b.getD tN tg0).2).map V.str ++ [V.str D.2.2])) nr
    refine ⟨by show (2 : Nat) ≤ _; omega, fun p np => ?_⟩
    have t6 := Same.new (o := .lst [V.str (b.getD tN tg0).1, V.ref r]) np
    have s35 := (s3.trans t4).trans t5
    refine q p r _ (s35.trans t6) (Same.free s35 np) (Same.free (s3.trans t4) nr) ?_ ?_
    · rw [etN]; exact upd_same
    · rw [t6 _ _ upd_same]
      unfold lawMarks
      rw [etN, List.map_append]
      rfl
end
end T1
namespace T1
open PySem L2
theorem putK_mem {kvs : List (Key × V)} {k : Key} {v : V} {p : Key × V} (h : p ∈ putK kvs k v) : p = (k, v) ∨ p ∈ kvs := by
  unfold putK at h
  split at h
  · obtain ⟨q, hq, e⟩ := List.mem_map.mp h
    split at e
    · rename_i g
      left
      rw [← e, g]
    · right
      rw [← e]
      exact hq
  · rcases List.mem_append.mp h with h | h
    · exact .inr h
    · exact .inl (List.mem_singleton.mp h)
theorem putK_nd {kvs : List (Key × V)} {k : Key} {v : V} (hn : (kvs.map (·.1)).Nodup) : ((putK kvs k v).map (·.1)).Nodup := by
  cases h : valV kvs k with
  | none => exact nd_putK v hn h
  | some u =>
    have e : (putK kvs k v).map (·.1) = kvs.map (·.1) := by
      unfold putK
      rw [if_pos (by rw [valV_any, h]; rfl), List.map_map]
      apply List.map_congr_left
      intro p _
      show (if p.1 = k then (p.1, v) else p).1 = p.1
      split <;> rfl
    rw [e]
    exact hn
theorem valV_mem {kvs : List (Key × V)} {k : Key} {v : V} (h : valV kvs k = some v) : (k, v) ∈ kvs := by
  induction kvs with
  | nil => cases h
  | cons p r ih =>
    by_cases e : p.1 = k
    · rw [valV_pos e] at h
      cases h
      rw [← e]
      exact List.mem_cons_self
    · rw [valV_neg e] at h
      exact List.mem_cons_of_mem _ (ih h)
structure Ent (C F : Nat) (kvs : List (Key × V)) : Prop where
  nd : (kvs.map (·.1)).Nodup
  ok : ∀ p ∈ kvs, ∃ kn vn : Nat, p = (.inl (kn : Int), .int (vn : Int)) ∧ kn ≤ 3 ∧ OkKV C F kn vn
theorem Ent.nil {C F : Nat} : Ent C F [] := ⟨.nil, fun p h => nomatch h⟩
theorem Ent.put {C F kn vn : Nat} {kvs : List (Key × V)} (h : Ent C F kvs) (hk : kn ≤ 3) (ho : OkKV C F kn vn) : Ent C F (putK kvs (.inl (kn : Int)) (.int (vn : Int))) := ⟨putK_nd h.nd, fun p hp => by
  rcases putK_mem hp with e | e
  · exact ⟨kn, vn, e, hk, ho⟩
  · exact h.ok p e⟩
theorem Ent.at {C F : Nat} {kvs : List (Key × V)} {k : Nat} {v : V} (h : Ent C F kvs) (e : valV kvs (.inl (k : Int)) = some v) : ∃ vn : Nat, v = .int (vn : Int) ∧ OkKV C F k vn := by
  obtain ⟨kn, vn, e2, _, ho⟩ := h.ok _ (valV_mem e)
  injection e2 with e3 e4
  injection e3 with e3
  have : k = kn := by omega
  subst this
  exact ⟨vn, e4, ho⟩
theorem Ent.least {C F : Nat} {kvs : List (Key × V)} {k c : Nat} (h : Ent C F kvs) (ho : OkKV C F k c) : ∃ m : Nat, (valV kvs (.inl (k : Int))).getD (.int (c : Int)) = .int (m : Int) ∧ OkKV C F k (if c < m then c else m) ∧ (if c < m then c else m) ≤ c := by
  cases e : valV kvs (.inl (k : Int)) with
  | none => exact ⟨c, rfl, by rw [if_neg (Nat.lt_irrefl _)]; exact ho, by rw [if_neg (Nat.lt_irrefl _)]; exact Nat.le_refl _⟩
  | some v =>
    obtain ⟨vn, rfl, h2⟩ := h.at e
    refine ⟨vn, rfl, ?_, ?_⟩
    · split
      · exact ho
      · exact h2
    · split <;> omega
theorem nd_len {α : Type} [DecidableEq α] : ∀ {l m : List α}, l.Nodup → l ⊆ m → l.length ≤ m.length
  | [], _, _, _ => Nat.zero_le _
  | a :: l, m, hn, hs => by
    obtain ⟨h1, h2⟩ := List.nodup_cons.mp hn
    have ha : a ∈ m := hs List.mem_cons_self
    have ih := nd_len (m := m.erase a) h2 fun x hx => (List.mem_erase_of_ne (fun e => h1 (by rw [← e]; exact hx))).mpr (hs (List.mem_cons_of_mem _ hx))
    rw [List.length_erase_of_mem ha] at ih
    have := List.length_pos_of_mem ha
    rw [List.length_cons]
    omega
theorem Ent.len {C F : Nat} {kvs : List (Key × V)} (h : Ent C F kvs) : kvs.length ≤ 4 := by
  have hs : (kvs.map (·.1)) ⊆ [.inl 0, .inl 1, .inl 2, .inl 3] := fun k hk => by
    obtain ⟨p, hp, rfl⟩ := List.mem_map.mp hk
    obtain ⟨kn, vn, e, hk3, _⟩ := h.ok p hp
    subst e
    have : kn = 0 ∨ kn = 1 ∨ kn = 2 ∨ kn = 3 := by omega
    rcases this with rfl | rfl | rfl | rfl <;> simp
  have hl := nd_len h.nd hs
  simpa using hl
theorem any_last {α : Type} (p : α → Bool) (a : α) (l : List α) : (a :: l).any p = (l ++ [a]).any p := by
  rw [List.any_cons, List.any_append, List.any_cons, List.any_nil, Bool.or_false, Bool.or_comm]
theorem freeB_law {b : Bk} {D : Dr} {esc : Str} {r : List Nat} {c far : Nat} : freeB esc (inMarks b D.2.1 D.2.2) D.2.2 r c far = (!decide ((⟨#[c]⟩ : Str) = esc) && !((lawMarks b D).any (markF D.2.2 r c far))) := by
  unfold freeB inMarks lawMarks
  rw [any_last]
def DInv (esc : Str) (ms : List Str) (close : Str) (l : List Nat) (kvs : List (Key × V)) : Prop :=
  (esc.length = 1 → Ent (costG esc ms close l) (farG esc ms close l) kvs ∧ valV kvs (.inl (farG esc ms close l : Nat)) = some (.int (costG esc ms close l : Nat))) ∧
  (esc.length = 0 → kvs = if needE esc ms close l = true then [] else [(.inl 3, .int 0)])
theorem DInv.start (esc : Str) (ms : List Str) (close : Str) : DInv esc ms close [] [(.inl 3, .int 0)] := by
  refine ⟨fun _ => ⟨⟨by simp, fun p hp => ?_⟩, rfl⟩, fun _ => rfl⟩
  rw [List.mem_singleton.mp hp]
  exact ⟨3, 0, rfl, Nat.le_refl _, .inr ⟨rfl, Nat.le_refl _⟩⟩
theorem DInv.len {esc : Str} {ms : List Str} {close : Str} {l : List Nat} {kvs : List (Key × V)} (h : DInv esc ms close l kvs) (he : esc.length = 0 ∨ esc.length = 1) : kvs.length ≤ 4 := by
  rcases he with g | g
  · rw [h.2 g]
    split
    · exact Nat.zero_le _
    · exact (by decide : (1 : Nat) ≤ 4)
  · exact (h.1 g).1.len
theorem Ent.eq {C F m : Nat} {kvs : List (Key × V)} (h : Ent C F kvs) (e : valV kvs (.inl (F : Int)) = some (.int (m : Int))) (hm : m ≤ C) : valV kvs (.inl (F : Int)) = some (.int (C : Int)) := by
  obtain ⟨vn, e2, ho⟩ := h.at e
  injection e2 with e2
  unfold OkKV at ho
  rw [e, show (m : Int) = (C : Int) by omega]
theorem far_next {esc : Str} {ms : List Str} {close : Str} {r : List Nat} {c : Nat} (hn : needC esc ms (putW esc ms close r) c = !freeB esc ms close r c (farG esc ms close r)) :
    (freeB esc ms close r c (farG esc ms close r) = true ∧ farG esc ms close (c :: r) = min 3 (farG esc ms close r + 1) ∧ costG esc ms close (c :: r) = costG esc ms close r) ∨
    (freeB esc ms close r c (farG esc ms close r) = false ∧ farG esc ms close (c :: r) = 0 ∧ costG esc ms close (c :: r) = costG esc ms close r + 1) := by
  cases g : freeB esc ms close r c (farG esc ms close r) with
  | true =>
    rw [g] at hn
    refine .inl ⟨rfl, ?_, ?_⟩
    · show (if _ then _ else _) = _
      rw [if_neg (by rw [hn]; decide)]
    · show (if _ then _ else _) = _
      rw [if_neg (by rw [hn]; decide)]
  | false =>
    rw [g] at hn
    refine .inr ⟨rfl, ?_, ?_⟩
    · show (if _ then _ else _) = _
      rw [if_pos (by rw [hn]; decide)]
    · show (if _ then _ else _) = _
      rw [if_pos (by rw [hn]; decide)]
end T1
namespace T1
open PySem L2
theorem Ent.val {C F : Nat} {kvs : List (Key × V)} (h : Ent C F kvs) {p : Key × V} (hp : p ∈ kvs) : valV kvs p.1 = some p.2 := by
  have nd := h.nd
  clear h
  induction kvs with
  | nil => cases hp
  | cons q r ih =>
    rw [List.map_cons, List.nodup_cons] at nd
    rcases List.mem_cons.mp hp with e | e
    · rw [e]; exact valV_pos rfl
    · have hne : ¬ q.1 = p.1 := fun g => nd.1 (g ▸ List.mem_map_of_mem e)
      rw [valV_neg hne]
      exact ih e nd.2
theorem Ent.less {C F : Nat} {kvs : List (Key × V)} {k c : Nat} (h : Ent C F kvs) (hk : k ≤ 3) (ho : OkKV C F k c) : ∃ m : Nat, (valV kvs (.inl (k : Int))).getD (.int (c : Int)) = .int (m : Int) ∧
    Ent C F (putK kvs (.inl (k : Int)) (.int (if (c : Int) < (m : Int) then (c : Int) else (m : Int)))) ∧
    (∀ j w0 : Nat, valV kvs (.inl (j : Int)) = some (.int (w0 : Int)) → ∃ w1 : Nat, w1 ≤ w0 ∧ valV (putK kvs (.inl (k : Int)) (.int (if (c : Int) < (m : Int) then (c : Int) else (m : Int)))) (.inl (j : Int)) = some (.int (w1 : Int))) ∧
    ∃ w1 : Nat, w1 ≤ c ∧ valV (putK kvs (.inl (k : Int)) (.int (if (c : Int) < (m : Int) then (c : Int) else (m : Int)))) (.inl (k : Int)) = some (.int (w1 : Int)) := by
  obtain ⟨m, e1, h1, h2⟩ := h.least ho
  have ei : (if (c : Int) < (m : Int) then (c : Int) else (m : Int)) = ((if c < m then c else m : Nat) : Int) := by
    by_cases g : c < m
    · rw [if_pos g, if_pos (by omega)]
    · rw [if_neg g, if_neg (by omega)]
  refine ⟨m, e1, ?_⟩
  rw [ei]
  refine ⟨h.put hk h1, fun j w0 hj => ?_, ⟨_, h2, by rw [valV_put, if_pos rfl]⟩⟩
  rw [valV_put]
  by_cases g : (Sum.inl (j : Int) : Key) = .inl (k : Int)
  · rw [if_pos g]
    refine ⟨_, ?_, rfl⟩
    rw [g] at hj
    rw [hj] at e1
    have e1 : V.int (w0 : Int) = .int (m : Int) := e1
    injection e1 with e1
    split <;> omega
  · rw [if_neg g]
    exact ⟨w0, Nat.le_refl _, hj⟩
section
variable (esc : Str) (ms : List Str) (close : Str) (r : List Nat) (c : Nat)
def TInv (kvs : List (Key × V)) (i : Nat) (kvs2 : List (Key × V)) : Prop :=
  (esc.length = 1 → Ent (costG esc ms close (c :: r)) (farG esc ms close (c :: r)) kvs2 ∧ ((∃ j, j < i ∧ ∃ v, kvs[j]? = some (.inl (farG esc ms close r : Nat), v)) → ∃ m : Nat, m ≤ costG esc ms close (c :: r) ∧ valV kvs2 (.inl (farG esc ms close (c :: r) : Nat)) = some (.int (m : Int)))) ∧
  (esc.length = 0 → kvs2 = if needE esc ms close (c :: r) = true then [] else if i = 0 then [] else [(.inl 3, .int 0)])
end
section
variable {esc : Str} {ms : List Str} {close : Str} {r : List Nat} {c : Nat} {kvs kvs2 : List (Key × V)} {i : Nat}
theorem TInv.start : TInv esc ms close r c kvs 0 [] := by
  refine ⟨fun _ => ⟨.nil, fun ⟨j, h, _⟩ => absurd h (Nat.not_lt_zero _)⟩, fun _ => ?_⟩
  rw [if_pos rfl]
  split <;> rfl
theorem DInv.kv (h : DInv esc ms close r kvs) (he : esc.length = 0 ∨ esc.length = 1) {p : Key × V} (hp : p ∈ kvs) : ∃ kn vn : Nat, p = (.inl (kn : Int), .int (vn : Int)) ∧ kn ≤ 3 ∧ valV kvs (.inl (kn : Int)) = some (.int (vn : Int)) := by
  rcases he with g | g
  · have e := h.2 g
    split at e
    · rw [e] at hp; cases hp
    · rw [e] at hp
      have hp := List.mem_singleton.mp hp
      exact ⟨3, 0, hp, Nat.le_refl _, by rw [e]; rfl⟩
  · obtain ⟨kn, vn, e, hk, _⟩ := (h.1 g).1.ok p hp
    refine ⟨kn, vn, e, hk, ?_⟩
    have := (h.1 g).1.val hp
    rw [e] at this
    exact this
theorem TInv.withE (hn : needC esc ms (putW esc ms close r) c = !freeB esc ms close r c (farG esc ms close r)) (he : esc.length = 1) (h : DInv esc ms close r kvs) (t : TInv esc ms close r c kvs i kvs2) {kn vn : Nat} (hp : kvs[i]? = some (.inl (kn : Int), .int (vn : Int))) :
    ∃ m : Nat, (valV kvs2 (.inl 0)).getD (.int ((vn : Int) + 1)) = .int (m : Int) ∧
      (freeB esc ms close r c kn = false → TInv esc ms close r c kvs (i + 1) (putK kvs2 (.inl 0) (.int (if ((vn : Int) + 1) < (m : Int) then ((vn : Int) + 1) else (m : Int))))) ∧
      (freeB esc ms close r c kn = true → ∃ m2 : Nat, (valV (putK kvs2 (.inl 0) (.int (if ((vn : Int) + 1) < (m : Int) then ((vn : Int) + 1) else (m : Int)))) (.inl ((min 3 (kn + 1) : Nat) : Int))).getD (.int (vn : Int)) = .int (m2 : Int) ∧
        TInv esc ms close r c kvs (i + 1) (putK (putK kvs2 (.inl 0) (.int (if ((vn : Int) + 1) < (m : Int) then ((vn : Int) + 1) else (m : Int)))) (.inl ((min 3 (kn + 1) : Nat) : Int)) (.int (if (vn : Int) < (m2 : Int) then (vn : Int) else (m2 : Int))))) := by
  obtain ⟨hE, hv⟩ := h.1 he
  obtain ⟨tE, tm⟩ := t.1 he
  obtain ⟨kn', vn', e0, hk3, hok⟩ := hE.ok _ (List.mem_of_getElem? hp)
  injection e0 with e1 e2
  injection e1 with e1
  injection e2 with e2
  obtain rfl : kn = kn' := by omega
  obtain rfl : vn = vn' := by omega
  have ok1 := ok_esc (c := c) hok
  obtain ⟨m, a1, a2, a3, w1, a4, a5⟩ := tE.less (k := 0) (c := vn + 1) (Nat.zero_le _) ok1
  have key0 : ((vn + 1 : Nat) : Int) = (vn : Int) + 1 := by omega
  rw [key0] at a1 a2 a3 a5
  refine ⟨m, a1, ?_⟩
  have h0 : ¬ (esc.length = 0) := by omega
  generalize hk1 : putK kvs2 (.inl 0) (.int (if ((vn : Int) + 1) < (m : Int) then ((vn : Int) + 1) else (m : Int))) = kv1 at *
  -- met at this key
  have at_far : kn = farG esc ms close r → vn = costG esc ms close r := fun g => by
    have := hE.val (List.mem_of_getElem? hp)
    rw [g] at this
    have := this.symm.trans hv
    injection this with this
    injection this with this
    omega
  have met : (∃ j, j < i + 1 ∧ ∃ v, kvs[j]? = some (.inl (farG esc ms close r : Nat), v)) → (∃ j, j < i ∧ ∃ v, kvs[j]? = some (.inl (farG esc ms close r : Nat), v)) ∨ kn = farG esc ms close r := fun ⟨j, hj, v, ej⟩ => by
    by_cases g : j < i
    · exact .inl ⟨j, g, v, ej⟩
    · have : j = i := by omega
      subst this
      rw [hp] at ej
      injection ej with ej
      injection ej with ej _
      injection ej with ej
      exact .inr (by omega)
  refine ⟨fun hf => ⟨fun _ => ⟨a2, fun hm => ?_⟩, fun g => absurd g h0⟩, fun hf => ?_⟩
  · rcases met hm with g | g
    · obtain ⟨m0, q1, q2⟩ := tm g
      obtain ⟨w, q3, q4⟩ := a3 _ _ q2
      exact ⟨w, by omega, q4⟩
    · rw [g] at hf
      rcases far_next (c := c) hn with ⟨q, _⟩ | ⟨_, q1, q2⟩
      · rw [q] at hf; cases hf
      · rw [q1, q2]
        exact ⟨w1, by have := at_far g; omega, a5⟩
  · have ok2 := ok_free (c := c) hn hok hf
    have ok2 : OkKV _ _ (min 3 (kn + 1)) vn := ok2
    obtain ⟨m2, b1, b2, b3, w2, b4, b5⟩ := a2.less (k := min 3 (kn + 1)) (c := vn) (by omega) ok2
    refine ⟨m2, b1, fun _ => ⟨b2, fun hm => ?_⟩, fun g => absurd g h0⟩
    rcases met hm with g | g
    · obtain ⟨m0, q1, q2⟩ := tm g
      obtain ⟨w, q3, q4⟩ := a3 _ _ q2
      obtain ⟨w', q5, q6⟩ := b3 _ _ q4
      exact ⟨w', by omega, q6⟩
    · rcases far_next (c := c) hn with ⟨_, q1, q2⟩ | ⟨q, _⟩
      · rw [q1, q2, ← g]
        exact ⟨w2, by have := at_far g; omega, b5⟩
      · rw [g, q] at hf; cases hf
theorem far3 (h : esc.length = 0) (hn : needE esc ms close r = false) : farG esc ms close r = 3 := by
  rcases shape_of r (.inr hn) with ⟨_, e⟩ | ⟨F, t, e, _, _, e3, _⟩
  · exact e
  · have := congrArg List.length e3
    rw [len_list, h] at this
    cases this
theorem TInv.plain (hn : needE esc ms close r = false → needC esc ms (putW esc ms close r) c = !freeB esc ms close r c (farG esc ms close r)) (he : esc.length = 0) (h : DInv esc ms close r kvs) (t : TInv esc ms close r c kvs i kvs2) {kn vn : Nat} (hp : kvs[i]? = some (.inl (kn : Int), .int (vn : Int))) :
    (freeB esc ms close r c kn = false → TInv esc ms close r c kvs (i + 1) kvs2) ∧
      (freeB esc ms close r c kn = true → ∃ m2 : Nat, (valV kvs2 (.inl ((min 3 (kn + 1) : Nat) : Int))).getD (.int (vn : Int)) = .int (m2 : Int) ∧
        TInv esc ms close r c kvs (i + 1) (putK kvs2 (.inl ((min 3 (kn + 1) : Nat) : Int)) (.int (if (vn : Int) < (m2 : Int) then (vn : Int) else (m2 : Int))))) := by
  have h1 : ¬ (esc.length = 1) := by omega
  have e := h.2 he
  have e2 := t.2 he
  cases hE : needE esc ms close r with
  | true =>
    rw [hE, if_pos rfl] at e
    rw [e] at hp
    cases hp
  | false =>
    rw [hE, if_neg Bool.false_ne_true] at e
    rw [e] at hp
    have i0 : i = 0 := by
      rcases i with _ | i
      · rfl
      · cases hp
    subst i0
    injection hp with hp
    injection hp with p1 p2
    injection p1 with p1
    injection p2 with p2
    have hk : kn = 3 := by omega
    have hv : vn = 0 := by omega
    subst hk hv
    rw [if_pos rfl, ite_self] at e2
    subst e2
    have hn := hn hE
    rw [far3 he hE] at hn
    have en : needE esc ms close (c :: r) = !freeB esc ms close r c 3 := by
      show (needE esc ms close r || needC esc ms (putW esc ms close r) c) = _
      rw [hE, hn, Bool.false_or]
    refine ⟨fun g => ⟨fun q => absurd q h1, fun _ => ?_⟩, fun g => ⟨0, rfl, fun q => absurd q h1, fun _ => ?_⟩⟩
    · rw [en, g, if_pos (by decide)]
    · rw [en, g, if_neg (by decide), if_neg (by decide)]
      rfl
theorem TInv.done (hn : (esc.length = 1 ∨ needE esc ms close r = false) → needC esc ms (putW esc ms close r) c = !freeB esc ms close r c (farG esc ms close r)) (h : DInv esc ms close r kvs) (t : TInv esc ms close r c kvs kvs.length kvs2) : DInv esc ms close (c :: r) kvs2 := by
  refine ⟨fun he => ?_, fun he => ?_⟩
  · obtain ⟨hE, hv⟩ := h.1 he
    obtain ⟨tE, tm⟩ := t.1 he
    have hm := valV_mem hv
    obtain ⟨j, hj, e⟩ := List.getElem_of_mem hm
    obtain ⟨m, q1, q2⟩ := tm ⟨j, hj, _, by rw [List.getElem?_eq_getElem hj, e]⟩
    exact ⟨tE, tE.eq q2 q1⟩
  · have e := h.2 he
    rw [t.2 he]
    cases hE : needE esc ms close r with
    | true =>
      have : needE esc ms close (c :: r) = true := by
        show (needE esc ms close r || _) = true
        rw [hE, Bool.true_or]
      rw [this, if_pos rfl, if_pos rfl]
    | false =>
      rw [hE, if_neg Bool.false_ne_true] at e
      rw [e]
      rfl
theorem cost0 : ∀ l : List Nat, needE esc ms close l = false → costG esc ms close l = 0
  | [], _ => rfl
  | c :: r, h => by
    have h : (needE esc ms close r || needC esc ms (putW esc ms close r) c) = false := h
    obtain ⟨h1, h2⟩ := Bool.or_eq_false_iff.mp h
    show (if _ then _ else _) = _
    rw [if_neg (by rw [h2]; exact Bool.false_ne_true)]
    exact cost0 r h1
theorem DInv.least (h : DInv esc ms close r kvs) (he : esc.length = 0 ∨ esc.length = 1) (hne : kvs ≠ []) {M : Int} (h1 : V.int M ∈ kvs.map (·.2)) (h2 : ∀ a, V.int a ∈ kvs.map (·.2) → M ≤ a) : (esc.length = 1 ∨ needE esc ms close r = false) ∧ M = (costG esc ms close r : Nat) := by
  rcases he with g | g
  · have e := h.2 g
    cases hE : needE esc ms close r with
    | true => rw [hE, if_pos rfl] at e; exact absurd e hne
    | false =>
      rw [hE, if_neg Bool.false_ne_true] at e
      rw [e] at h1
      refine ⟨.inr rfl, ?_⟩
      have h1 : V.int M = V.int 0 := List.mem_singleton.mp h1
      injection h1 with h1
      rw [cost0 _ hE, h1]
      rfl
  · obtain ⟨hE, hv⟩ := h.1 g
    refine ⟨.inl g, ?_⟩
    obtain ⟨p, hp, ep⟩ := List.mem_map.mp h1
    obtain ⟨kn, vn, e1, _, ho⟩ := hE.ok p hp
    rw [e1] at ep
    injection ep with ep
    have := h2 _ (List.mem_map.mpr ⟨_, valV_mem hv, rfl⟩)
    unfold OkKV at ho
    omega
theorem DInv.nil (h : DInv esc ms close r []) (he : esc.length = 0 ∨ esc.length = 1) : esc.length = 0 ∧ needE esc ms close r = true := by
  rcases he with g | g
  · refine ⟨g, ?_⟩
    have e := h.2 g
    cases hE : needE esc ms close r with
    | true => rfl
    | false => rw [hE, if_neg Bool.false_ne_true] at e; cases e
  · obtain ⟨_, hv⟩ := h.1 g
    cases hv
end
theorem in_marks {b : Bk} {D : Dr} (hD : ∃ t ∈ b, D ∈ t.2) {m : Str} (hm : m ∈ inMarks b D.2.1 D.2.2) : m ∈ marksB b := by
  rcases List.mem_cons.mp hm with e | hm
  · obtain ⟨t, ht, hDt⟩ := hD
    rw [e]
    exact List.mem_flatMap.mpr ⟨t, ht, List.mem_flatMap.mpr ⟨D, hDt, List.mem_cons_of_mem _ List.mem_cons_self⟩⟩
  · obtain ⟨dd, hdd, rfl⟩ := List.mem_map.mp hm
    by_cases hl : D.2.1.toNat < b.length
    · exact List.mem_flatMap.mpr ⟨_, getD_mem tg0 hl, List.mem_flatMap.mpr ⟨dd, hdd, List.mem_cons_self⟩⟩
    · have e : b.getD D.2.1.toNat tg0 = tg0 := by simp [hl]
      rw [e] at hdd
      cases hdd
theorem in_ms {b : Bk} {D : Dr} (hb : BkOk b) (hD : ∃ t ∈ b, D ∈ t.2) (hin : 0 ≤ D.2.1 ∧ D.2.1 < b.length) {m : Str} (hm : m ∈ inMarks b D.2.1 D.2.2) : 1 ≤ m.length ∧ m.length ≤ 4 ∧ ∀ e, (b.getD D.2.1.toNat tg0).1.cps.toList = [e] → ¬ e ∈ m.cps.toList := by
  have hM := in_marks hD hm
  refine ⟨?_, ?_, fun e he hmem => ?_⟩
  · obtain ⟨t, ht, h2⟩ := List.mem_flatMap.mp hM
    obtain ⟨d, hd, h3⟩ := List.mem_flatMap.mp h2
    have := (hb.2.2.1 t ht).2.2 d hd
    rcases List.mem_cons.mp h3 with g | g
    · rw [g]; exact (markS_len this.1).2
    · rw [List.mem_singleton.mp g]; exact (markS_len this.2.2).2
  · obtain ⟨t, ht, h2⟩ := List.mem_flatMap.mp hM
    obtain ⟨d, hd, h3⟩ := List.mem_flatMap.mp h2
    have := (hb.2.2.1 t ht).2.2 d hd
    rcases List.mem_cons.mp h3 with g | g
    · rw [g]; exact (markS_len this.1).1
    · rw [List.mem_singleton.mp g]; exact (markS_len this.2.2).1
  · refine esc_free hb (getD_mem tg0 (show D.2.1.toNat < b.length by omega)) hM hmem ?_
    exact str_ext (by rw [he])
end T1
namespace T1
open PySem L2
inductive spFewest : List V → Hp → VK → XK → Prop where
  | mk {vs : List V} {H : Hp} {Q : VK} {E : XK} (z v b x : _) (qd : Addr) (D : Dr) (esc : Str) (c1 : vs = [v, .ref qd, .str x]) (c3 : Rep z H v (bkD b)) (c4 : BkOk b) (c5 : H qd = some (.tup [.str D.1, .int D.2.1, .str D.2.2])) (c6 : 0 ≤ D.2.1 ∧ D.2.1 < b.length) (c7 : ∃ t ∈ b, D ∈ t.2) (c8 : x.length ≤ 20000) (d3 : esc = (b.getD D.2.1.toNat tg0).1)
    (q : (esc ≠ Str.ofString "" ∨ needE esc (inMarks b D.2.1 D.2.2) D.2.2 x.cps.toList = false) → ∀ H', Same H H' → Q (.int (costG esc (inMarks b D.2.1 D.2.2) D.2.2 x.cps.toList : Nat)) H')
    (e : esc = Str.ofString "" → needE esc (inMarks b D.2.1 D.2.2) D.2.2 x.cps.toList = true → ∀ H', Same H H' → Q .non H') : spFewest vs H Q E
theorem decide_strV (a b : Str) : decide (V.str a = V.str b) = decide (a = b) := decide_eq_decide.mpr ⟨fun h => by injection h, fun h => by rw [h]⟩
theorem take_snoc {α : Type} {l : List α} {q : Nat} {m : α} (h : l[q]? = some m) : l.take (q + 1) = l.take q ++ [m] := by
  rw [List.take_add_one, h]
  rfl
theorem cut_to4 (y : Str) {k : Nat} (h : k ≤ y.length) : (cutS y none (some (k : Int))).cps.toList = y.cps.toList.take k := by
  unfold cutS
  have e1 : HT.sIx y.length 0 none = 0 := rfl
  have e2 : HT.sIx y.length y.length (some (k : Int)) = k := by
    show (if (k : Int) < 0 then ((k : Int) + (y.length : Int)).toNat else min (k : Int).toNat y.length) = k
    rw [if_neg (by omega)]
    omega
  rw [e1, e2]
  simp
theorem putK_len (kvs : List (Key × V)) (k : Key) (v : V) : (putK kvs k v).length ≤ kvs.length + 1 := by
  unfold putK
  split
  · rw [List.length_map]; omega
  · rw [List.length_append]; exact Nat.le_refl _
theorem ints_of {kvs : List (Key × V)} (h : ∀ p ∈ kvs, ∃ n : Int, p.2 = V.int n) : ∃ ns : List Int, kvs.map (·.2) = ns.map V.int := by
  induction kvs with
  | nil => exact ⟨[], rfl⟩
  | cons p r ih =>
    obtain ⟨n, hn⟩ := h p List.mem_cons_self
    obtain ⟨ns, hns⟩ := ih fun q hq => h q (List.mem_cons_of_mem _ hq)
    exact ⟨n :: ns, by rw [List.map_cons, List.map_cons, hn, hns]⟩
section
variable {P : Program} {w : World} {K : PySem.W.Frag} {mg : Str → Option Value} {base : Heap}
theorem scFewest : FnScope ["book", "door", "text", "escape", "marks", "whole", "best", "place", "further", "far", "free", "mark", "rest", "least", "step"] ["book", "door", "text"] (defScope lFewest) := ⟨rfl, rfl, rfl, by decide +kernel, rfl, by decide +kernel, by decide +kernel⟩
theorem ndFB : (["far", "best"] : List Str).Nodup := by decide +kernel
set_option maxHeartbeats 0 in
theorem ok_fewest {f f1 : Addr} {fd fd1 : FuncData} (F : Fun K "_law_fewest" "_law_fewest" lFewest f fd) (T : TxtB mg) (T2 : Txt2 mg)
    (k1 : PySem.W.keepIn K (.ref f1) = true) (b1 : Binds K fd1 ["book", "door"] []) (m1 : mg "_law_inside" = some (.ref f1)) (G1 : FnOk P w K mg base CX0 1 f1 fd1 ["book", "door"] spInside) : FnOk P w K mg base CX0 2 f fd ["book", "door", "text"] spFewest := by
  refine F.ok scFewest (fun vs H Q E h => ?_) (fun cdv A outer s H vs Q E hr h => ?_)
  · obtain ⟨z, v, b, x, qd, D, esc, rfl, _⟩ := h
    rfl
  · obtain ⟨z, v, b, x, qd, D, esc, rfl, R0, hok, hqd, hin, hDb, hxl, hesc, q, e⟩ := h
    have nd := scFewest.nd
    have hr1 : Room 1 _ := hr.mono (by decide)
    have hu : (A.deeper (PyProof.Rows.envOfC (Str.ofString "_law_fewest") (defScope lFewest) s.heap.objs.size f cdv)).units + 1 < cLine := by have := hr.un; omega
    refine ⟨_, pss_cons (ps_asg (pe_call G1 hr1 rfl m1 k1 b1 .nil pass0 (pa_cons (pv 0) (pa_cons (pv 1) pa_nil))) (pg_tupL rfl (pgs_cons (pg_name (i := 3) nd rfl (Or.inl rfl)) (pgs_cons (pg_name (i := 4) nd rfl (Or.inl rfl)) pgs_nil))))
      (pss_cons (ps_set (i := 5) nd rfl (Or.inl rfl) (pe_op op_add_str (pv 2) (pe_ix ix_tup (pv 1) pe_int (fun _ _ => rfl))))
      (pss_cons (ps_set (i := 6) nd rfl (Or.inr rfl) (pe_disp (pps_cons pe_int pe_int pps_nil) rfl rfl (by simp) (by decide)))
      (pss_cons (ps_for PassesOwn.never rfl (pi_list (pe_revL (pe_listRange1 hr.hd rfl T2.list b_list rfl T.range (pa_cons (pe_callB call_len_str (by rfl) T.len b_len (pa_cons (pv 2) pa_nil)) pa_nil)) (po_some (pe_un un_neg pe_int)))) (pg_name (i := 7) nd rfl (Or.inl rfl))
        (pss_cons (ps_set (i := 8) nd rfl (Or.inl rfl) pe_dnewK)
        (pss_cons (ps_for PassesOwn.never rfl (pi_dict (pv 6)) (pg_name (i := 9) nd rfl (Or.inl rfl))
          (pss_cons (ps_set (i := 10) nd rfl (Or.inl rfl) (pe_cmpR op_ne (pe_ix ix_str (pv 2) (pv 7) (fun _ _ => rfl)) (pv 3) (nomark _)))
          (pss_cons (ps_for PassesOwn.never rfl (pi_list (pv 4)) (pg_name (i := 11) nd rfl (Or.inl rfl))
            (pss_cons (ps_set (i := 12) nd rfl (Or.inl rfl) (pe_slice sl_str (pv 5) (po_some (pv 7)) (po_some (pe_op op_add (pv 7) (pe_callB call_len_str (by rfl) T.len b_len (pa_cons (pv 11) pa_nil))))))
            (pss_cons (ps_set (i := 13) nd rfl (Or.inl rfl) (pe_callB (call_min2 rfl) (by rfl) T2.min b_min (pa_B (pe_op op_sub (pe_callB call_len_str (by rfl) T.len b_len (pa_cons (pv 11) pa_nil)) pe_int) (pa_B (pe_op op_sub (pe_op op_sub (pe_callB call_len_str (by rfl) T.len b_len (pa_cons (pv 2) pa_nil)) pe_int) (pv 7)) pa_nil))))
            (pss_one (ps_if (PW.pt (pw_and (pt_cmpR op_eq (pe_slice sl_str (pv 11) po_none (po_some (pe_callB call_len_str (by rfl) T.len b_len (pa_cons (pv 12) pa_nil)))) (pv 12) (nomark _)) (pw_and1 (pt_cmpR op_ge (pv 9) (pv 13) (nomark _))))) (pss_one (ps_set (i := 10) nd rfl (Or.inl rfl) pe_bl)) pss_nil)))))
          (pss_cons (ps_if (pt_cmpR op_ne (pv 3) pe_str (nomark _)) (pss_one (ps_dput hu (pv 8) pe_int (pe_callB (call_min2 rfl) (by rfl) T2.min b_min (pa_cons (pe_dget2 hu (pv 8) pe_int (pe_op op_add (pe_ixE (pv 6) (pv 9) (fun _ _ => rfl)) pe_int) ⟨rfl, rfl, rfl, rfl⟩) (pa_B (pe_op op_add (pe_ixE (pv 6) (pv 9) (fun _ _ => rfl)) pe_int) pa_nil))) rfl)) pss_nil)
          (pss_one (ps_if (pt_val (pv 10)) (pss_cons (ps_set (i := 14) nd rfl (Or.inl rfl) (pe_callB (call_min2 rfl) (by rfl) T2.min b_min (pa_K pe_int (pa_B (pe_op op_add (pv 9) pe_int) pa_nil))))
            (pss_one (ps_dput hu (pv 8) (pv 14) (pe_callB (call_min2 rfl) (by rfl) T2.min b_min (pa_cons (pe_dget2 hu (pv 8) (pv 14) (pe_ixE (pv 6) (pv 9) (fun _ _ => rfl)) ⟨rfl, rfl, rfl, rfl⟩) (pa_cons (pe_ixE (pv 6) (pv 9) (fun _ _ => rfl)) pa_nil))) rfl))) pss_nil))))))
        (pss_one (ps_set (i := 6) nd rfl (Or.inr rfl) (pv 8))))))
      (pss_cons (ps_if (pt_cmpR (op_eq_nilD hr.units0) (pv 6) pe_dnewK (nomark _)) (pss_one (ps_ret pe_non)) pss_nil)
      (pss_one (ps_ret (pe_callB (call_min_ints rfl) (by rfl) T2.min b_min (pa_cons (pe_comp1 (N' := ["far", "best"]) (js := [none, some 6]) rfl rfl (blk_of (defScope lFewest) (by decide +kernel)) ⟨rfl, Or.inr (Or.inl rfl), rfl, trivial⟩ (pi_dict (pv 6))
        (fun cl s H fp => pg_name (i := 0) ndFB rfl (Or.inl rfl)) (fun cl s H fp => pts_nil) (fun cl s H fp => pe_ixEB (pv 1) (pv 0) (fun _ _ => rfl))) pa_nil)))))))), ?_⟩
    dsimp only [cxOf, Cx.nox, Cx.wish]
    have big2 : (100000 : Nat) ≤ sizeLine := by rw [sizeLine_eq]; decide
    obtain ⟨hb1, hb6, htok, hbB⟩ := id hok
    refine D_hide fun D0 _ hR0 _ _ => seq_hide fun U hU => ?_
    refine ⟨_, rfl, _, rfl, z, v, b, qd, D, rfl, R0, hok, hqd, hin, fun pI pM H1 s1 npI npM hpI hpM => ?_⟩
    refine ⟨pI, _, rfl, SqL.of hpI, rfl, _, _, rfl, _, _, rfl, rfl, hU _ _ (seq_hide fun U hU => ?_)⟩
    have hqd1 := s1 _ _ hqd
    have hcl : D.2.2.length ≤ 4 := by
      obtain ⟨t, ht, hDt⟩ := hDb
      exact (markS_len ((htok t ht).2.2 D hDt).2.2).1
    refine ⟨_, rfl, _, rfl, qd, _, 2, _, rfl, rfl, SqT.of hqd1, atI_nat (j := 2) rfl, _, _, rfl, rfl, by omega, hU _ _ (seq_hide fun U hU => ?_)⟩
    refine fun pB npB => ⟨upd_same, [(.inl 3, .int 0)], rfl, by decide, hU _ _ (seq_hide fun U hU => ?_)⟩
    have hpB2 : upd (upd H1 pB (.dK [])) pB (.dK (mergeK [] [(.inl 3, .int 0)])) pB = some (.dK [(.inl 3, .int 0)]) := upd_same
    have s2 : Same H1 (upd (upd H1 pB (.dK [])) pB (.dK (mergeK [] [(.inl 3, .int 0)]))) := fun b' o e' => by
      have hne : b' ≠ pB := fun g => by rw [g, npB] at e'; cases e'
      rw [upd_ne hne, upd_ne hne]
      exact e'
    generalize upd (upd H1 pB (.dK [])) pB (.dK (mergeK [] [(.inl 3, .int 0)])) = H2 at *
    have s02 := s1.trans s2
    have hpM2 := s2 _ _ hpM
    have hqd2 := s2 _ _ hqd1
    refine ⟨_, rfl, x, rfl, by omega, (x.length : Int), rfl, ⟨by omega, by omega⟩, by omega, fun pL npL => ?_⟩
    refine ⟨_, rfl, _, rfl, rfl, pL, _, rfl, SqL.of upd_same, fun pR npR => ?_⟩
    obtain ⟨nX, hnX⟩ : ∃ n, n = x.length := ⟨_, rfl⟩
    have enX : ((x.length : Int)).toNat = nX := by omega
    rw [enX] at npR ⊢
    have t3 := Same.new (o := .lst ((List.range nX).map fun k : Nat => V.int (k : Int))) npL
    generalize upd H2 pL (.lst ((List.range nX).map fun k : Nat => V.int (k : Int))) = H3 at *
    have t4 := Same.new (o := .lst ((List.range nX).map fun k : Nat => V.int (k : Int)).reverse) npR
    have hpR : upd H3 pR (.lst ((List.range nX).map fun k : Nat => V.int (k : Int)).reverse) pR = some (.lst ((List.range nX).map fun k : Nat => V.int (k : Int)).reverse) := upd_same
    have s24 := t3.trans t4
    have hpBR : pB ≠ pR := fun g => by rw [← g, t3 _ _ hpB2] at npR; cases npR
    generalize upd H3 pR (.lst ((List.range nX).map fun k : Nat => V.int (k : Int)).reverse) = H4 at *
    rw [← hesc]
    have hms : ∀ m ∈ inMarks b D.2.1 D.2.2, 1 ≤ m.length ∧ m.length ≤ 4 ∧ ∀ e, esc.cps.toList = [e] → ¬ e ∈ m.cps.toList := fun m hm => by
      rw [hesc]
      exact in_ms hok hDb hin hm
    have hel : esc.length = 0 ∨ esc.length = 1 := by
      have := esc_le1 (htok _ (getD_mem tg0 (show D.2.1.toNat < b.length by omega))).1
      rw [← hesc] at this
      omega
    have hnd : ∀ r c, (esc.length = 1 ∨ needE esc (inMarks b D.2.1 D.2.2) D.2.2 r = false) → needC esc (inMarks b D.2.1 D.2.2) (putW esc (inMarks b D.2.1 D.2.2) D.2.2 r) c = !freeB esc (inMarks b D.2.1 D.2.2) D.2.2 r c (farG esc (inMarks b D.2.1 D.2.2) D.2.2 r) := fun r c h => need_free (shape_of r h) hms
    have hml4 : ∀ m ∈ lawMarks b D, 1 ≤ m.length ∧ m.length ≤ 4 := fun m hm => by
      refine (fun h => ⟨(hms m h).1, (hms m h).2.1⟩) ?_
      unfold lawMarks at hm
      unfold inMarks
      rcases List.mem_append.mp hm with h | h
      · exact List.mem_cons_of_mem _ h
      · rw [List.mem_singleton.mp h]; exact List.mem_cons_self
    have hxL : x.cps.toList.length = nX := by rw [hnX]; exact len_list x
    refine ⟨pR, rfl, ⟨_, SqL.of hpR⟩, for_list (K := K) (a := pR) (xs := ((List.range nX).map fun k : Nat => V.int (k : Int)).reverse) (fun i σ H5 => ∃ dB kvs u7 u8 u9 u10 u11 u12 u13 u14, σ = [some v, some (.ref qd), some (.str x), some (.str esc), some (.ref pM), some (.str (x ++ D.2.2)), some (.ref dB), u7, u8, u9, u10, u11, u12, u13, u14] ∧ Same H1 H5 ∧ H5 pR = some (.lst ((List.range nX).map fun k : Nat => V.int (k : Int)).reverse) ∧ H1 dB = none ∧ dB ≠ pR ∧ H5 dB = some (.dK kvs) ∧ DInv esc (inMarks b D.2.1 D.2.2) D.2.2 (x.cps.toList.drop (nX - i)) kvs) ⟨pB, _, _, _, _, _, _, _, _, _, rfl, s2.trans s24, hpR, npB, hpBR, s24 _ _ hpB2, by rw [Nat.sub_zero, ← hxL, List.drop_length]; exact DInv.start _ _ _⟩ (fun i σ H5 _ ⟨_, _, _, _, _, _, _, _, _, _, _, _, h, _⟩ => SqL.of h) (fun i xv σ H5 hi ⟨dB, kvs, u7, u8, u9, u10, u11, u12, u13, u14, hσ, s5, hR5, ndB, hdR, hdB, dI⟩ => ?_) (fun σ H5 ⟨dB, kvs, u7, u8, u9, u10, u11, u12, u13, u14, hσ, s5, hR5, ndB, hdR, hdB, dI⟩ => ?_)⟩
    · subst hσ
      have hi2 : i < nX := by
        have := (List.getElem?_eq_some_iff.mp hi).1
        simpa using this
      have exv : xv = V.int ((nX - 1 - i : Nat) : Int) := by
        have h2 : ((List.range nX).map fun k : Nat => V.int (k : Int)).reverse[i]? = some (V.int ((nX - 1 - i : Nat) : Int)) := by
          rw [List.getElem?_reverse (by simpa using hi2), List.length_map, List.length_range, List.getElem?_map, List.getElem?_range (by omega)]
          rfl
        rw [h2] at hi
        injection hi with hi
        exact hi.symm
      subst exv
      have hpl : nX - 1 - i < x.cps.toList.length := by omega
      obtain ⟨pN, hpN⟩ : ∃ n, n = nX - 1 - i := ⟨_, rfl⟩
      obtain ⟨c, hc⟩ : ∃ c, x.cps.toList[pN]? = some c := ⟨x.cps.toList[nX - 1 - i], by rw [hpN]; exact List.getElem?_eq_getElem hpl⟩
      obtain ⟨r, hrr⟩ : ∃ r, r = x.cps.toList.drop (nX - i) := ⟨_, rfl⟩
      have ecr : x.cps.toList.drop pN = c :: r := by
        rw [hrr, show nX - i = pN + 1 by omega, List.drop_eq_getElem_cons (by omega)]
        rw [List.getElem?_eq_getElem (by omega)] at hc
        injection hc with hc
        rw [hc]
      rw [← hrr] at dI
      have hrl : r.length = i := by rw [hrr, List.length_drop, hxL]; omega
      have ewh : (x ++ D.2.2).cps.toList.drop pN = c :: r ++ D.2.2.cps.toList := by
        rw [app_list, List.drop_append_of_le_length (by omega), ecr]
      rw [← hpN]
      dsimp only [gName]
      refine seq_hide fun U hU => ?_
      refine fun pF npF => hU _ _ (seq_hide fun U hU => ?_)
      have npF1 : H1 pF = none := by
        cases e : H1 pF with
        | none => rfl
        | some o => rw [s5 _ _ e] at npF; cases npF
      have hFB : dB ≠ pF := fun g => by rw [g, npF] at hdB; cases hdB
      have hFR : pF ≠ pR := fun g => by rw [g, hR5] at npF; cases npF
      refine ⟨_, rfl, dB, kvs, rfl, by rw [upd_ne hFB]; exact hdB, fun ep => ?_⟩
      refine for_dict (P := P) (w := w) (d := dB) (ep := ep) (kvs := kvs) (fun j σ H6 => ∃ kvs2 u9 u10 u11 u12 u13 u14, σ = [some v, some (.ref qd), some (.str x), some (.str esc), some (.ref pM), some (.str (x ++ D.2.2)), some (.ref dB), some (.int (pN : Int)), some (.ref pF), u9, u10, u11, u12, u13, u14] ∧ (∀ b' o, b' ≠ dB → b' ≠ pF → H5 b' = some o → H6 b' = some o) ∧ H6 dB = some (dE P w dB ep kvs) ∧ H6 pF = some (.dK kvs2) ∧ TInv esc (inMarks b D.2.1 D.2.2) D.2.2 r c kvs j kvs2) ⟨[], _, _, _, _, _, _, rfl, fun b' o h1 h2 h3 => by rw [upd_ne h1, upd_ne h2]; exact h3, upd_same, by rw [upd_ne (Ne.symm hFB)]; exact upd_same, TInv.start⟩ (fun j σ H6 _ ⟨_, _, _, _, _, _, _, _, _, h, _⟩ => h) (fun j p σ H6 hj ⟨kvs2, u9, u10, u11, u12, u13, u14, hσ, s6, hB6, hF6, tI⟩ => ?_) (fun σ H6 ⟨kvs2, u9, u10, u11, u12, u13, u14, hσ, s6, hB6, hF6, tI⟩ => ?_)
      · subst hσ
        obtain ⟨kn, vn, rfl, hk3, hval⟩ := dI.kv hel (List.mem_of_getElem? hj)
        have hM6 : H6 pM = some (.lst ((lawMarks b D).map V.str)) := s6 _ _ (fun g => by rw [g, ndB] at hpM; cases hpM) (fun g => by rw [g, npF1] at hpM; cases hpM) (s5 _ _ hpM)
        have eF0 : (!decide (V.str ⟨#[c]⟩ = V.str esc)) = (!decide ((⟨#[c]⟩ : Str) = esc) && !((lawMarks b D).take 0).any (markF D.2.2 r c kn)) := by
          rw [decide_strV, List.take_zero, List.any_nil, Bool.not_false, Bool.and_true]
        show gName _ _ _ _ _
        dsimp only [gName]
        refine seq_hide fun U2 hU2 => ?_
        refine ⟨_, rfl, _, rfl, x, _, c, rfl, rfl, by omega, atI_nat hc, _, rfl, rfl, hU2 _ _ (seq_hide fun U2 hU2 => ?_)⟩
        refine ⟨_, rfl, pM, rfl, ⟨_, SqL.of hM6⟩, for_list (K := K) (a := pM) (xs := (lawMarks b D).map V.str) (fun q σ H7 => H7 = H6 ∧ ∃ u11 u12 u13, σ = [some v, some (.ref qd), some (.str x), some (.str esc), some (.ref pM), some (.str (x ++ D.2.2)), some (.ref dB), some (.int (pN : Int)), some (.ref pF), some (.int (kn : Int)), some (.bl (!decide ((⟨#[c]⟩ : Str) = esc) && !((lawMarks b D).take q).any (markF D.2.2 r c kn))), u11, u12, u13, u14]) ⟨rfl, u11, u12, u13, by rw [← eF0]; rfl⟩ (fun q σ H7 _ ⟨h, _⟩ => by rw [h]; exact SqL.of hM6) (fun q mv σ H7 hq ⟨h7, u11, u12, u13, hσ⟩ => ?_) (fun σ H7 ⟨h7, u11, u12, u13, hσ⟩ => ?_)⟩
        · subst h7 hσ
          obtain ⟨m, hqm, rfl⟩ : ∃ m, (lawMarks b D)[q]? = some m ∧ mv = V.str m := by
            rw [List.getElem?_map] at hq
            cases e : (lawMarks b D)[q]? with
            | none => rw [e] at hq; cases hq
            | some m => rw [e] at hq; injection hq with hq; exact ⟨m, rfl, hq.symm⟩
          obtain ⟨hm1, hm4⟩ := hml4 m (List.mem_of_getElem? hqm)
          have hwl : (x ++ D.2.2).length ≤ 20004 := by rw [app_len]; omega
          show gName _ _ _ _ _
          dsimp only [gName]
          refine ⟨_, rfl, _, rfl, _, rfl, _, rfl, _, rfl, m, rfl, by omega, _, _, rfl, rfl, _, rfl, _, rfl, by omega, ?_⟩
          have hcl1 := cut_list (x ++ D.2.2) pN m.length
          rw [ewh] at hcl1
          generalize cutS (x ++ D.2.2) (some (pN : Int)) (some ((pN : Int) + (m.length : Int))) = rest at *
          have hrestl : rest.length ≤ 4 := by rw [← len_list, hcl1, List.length_take]; omega
          have hrestm : rest.length ≤ m.length := by rw [← len_list rest, hcl1, List.length_take]; omega
          refine ⟨_, rfl, m, rfl, by omega, _, _, rfl, rfl, _, rfl, x, rfl, by omega, _, _, rfl, rfl, _, rfl, _, _, rfl, rfl, _, _, rfl, ?_⟩
          have eraw : decide (V.str (cutS m none (some (rest.length : Int))) = V.str rest) = decide (m.cps.toList.take ((c :: r ++ D.2.2.cps.toList).take m.length).length = (c :: r ++ D.2.2.cps.toList).take m.length) := by
            rw [decide_strV, ← hcl1, len_list]
            apply decide_eq_decide.mpr
            rw [← cut_to4 m hrestm]
            exact ⟨fun g => by rw [g], fun g => str_ext g⟩
          have etk : ((lawMarks b D).take (q + 1)).any (markF D.2.2 r c kn) = (((lawMarks b D).take q).any (markF D.2.2 r c kn) || markF D.2.2 r c kn m) := by
            rw [take_snoc hqm, List.any_append, List.any_cons, List.any_nil, Bool.or_false]
          refine ⟨_, rfl, _, rfl, rest, rfl, by omega, _, rfl, _, rfl, by omega, _, rfl, rfl, _, rfl, ite2 (fun g1 => ?_) (fun g1 => ?_)⟩
          · refine ⟨_, rfl, _, rfl, _, _, rfl, rfl, _, rfl, ite2 (fun g2 => ?_) (fun g2 => ?_)⟩
            · have hmk : markF D.2.2 r c kn m = true := by
                unfold markF
                rw [← eraw, g1, Bool.true_and]
                apply decide_eq_true
                have := of_decide_eq_true g2
                split at this <;> omega
              show _ = _ ∧ ∃ u11 u12 u13, _ = _
              rw [etk, hmk, Bool.or_true, Bool.not_true, Bool.and_false]
              exact ⟨rfl, _, _, _, rfl⟩
            · have hmk : markF D.2.2 r c kn m = false := by
                unfold markF
                rw [← eraw, g1, Bool.true_and]
                apply decide_eq_false
                intro g3
                apply g2
                apply decide_eq_true
                split <;> omega
              show _ = _ ∧ ∃ u11 u12 u13, _ = _
              rw [etk, hmk, Bool.or_false]
              exact ⟨rfl, _, _, _, rfl⟩
          · have hmk : markF D.2.2 r c kn m = false := by
              unfold markF
              rw [← eraw, Bool.eq_false_iff.mpr g1, Bool.false_and]
            show _ = _ ∧ ∃ u11 u12 u13, _ = _
            rw [etk, hmk, Bool.or_false]
            exact ⟨rfl, _, _, _, rfl⟩
        · subst h7 hσ
          refine hU2 _ _ ?_
          have efl : (!decide ((⟨#[c]⟩ : Str) = esc) && !((lawMarks b D).take ((lawMarks b D).map V.str).length).any (markF D.2.2 r c kn)) = freeB esc (inMarks b D.2.1 D.2.2) D.2.2 r c kn := by
            rw [List.length_map, List.take_length, freeB_law]
          rw [efl]
          obtain ⟨fB, hfB⟩ : ∃ fB, fB = freeB esc (inMarks b D.2.1 D.2.2) D.2.2 r c kn := ⟨_, rfl⟩
          rw [← hfB]
          have esp : V.int ((if (kn : Int) + 1 < 3 then (kn : Int) + 1 else 3)) = V.int ((min 3 (kn + 1) : Nat) : Int) := by
            congr 1
            split <;> omega
          have l4 : kvs.length ≤ 4 := dI.len hel
          refine ⟨_, rfl, rfl, _, rfl, ite2 (fun g => ?_) (fun g => ?_)⟩
          · have he1 : esc.length = 1 := by
              rcases hel with h | h
              · exfalso
                rw [show esc = Str.ofString "" from str_ext (by rw [List.length_eq_zero_iff.mp ((len_list esc).trans h)]; rfl)] at g
                exact absurd g (by decide)
              · exact h
            obtain ⟨m, a1, a2, a3⟩ := tI.withE (hnd r c (.inl he1)) he1 dI hj
            have k4 : kvs2.length ≤ 4 := (tI.1 he1).1.len
            refine ⟨_, rfl, pF, rfl, .inl ⟨_, .inl hF6⟩, _, rfl, _, rfl, dB, .inl (kn : Int), ep, kvs, _, rfl, rfl, hB6, hval, _, _, rfl, rfl, _, DGet.k (k := .inl 0) hF6, _, rfl, _, rfl, dB, .inl (kn : Int), ep, kvs, _, rfl, rfl, hB6, hval, _, _, rfl, rfl, (m : Int), _, by rw [a1], _, rfl, pF, _, rfl, DPut.k (k := .inl 0) hF6 (by omega), ?_⟩
            have hF7 := upd_same (H := H7) (a := pF) (o := .dK (putK kvs2 (.inl 0) (.int (if ((vn : Int) + 1) < (m : Int) then ((vn : Int) + 1) else (m : Int)))))
            have s7 : ∀ b' o, b' ≠ dB → b' ≠ pF → H5 b' = some o → upd H7 pF (.dK (putK kvs2 (.inl 0) (.int (if ((vn : Int) + 1) < (m : Int) then ((vn : Int) + 1) else (m : Int))))) b' = some o := fun b' o h1 h2 h3 => by rw [upd_ne h2]; exact s6 b' o h1 h2 h3
            have hB7 : upd H7 pF (.dK (putK kvs2 (.inl 0) (.int (if ((vn : Int) + 1) < (m : Int) then ((vn : Int) + 1) else (m : Int))))) dB = some (dE P w dB ep kvs) := by rw [upd_ne hFB]; exact hB6
            generalize upd H7 pF (.dK (putK kvs2 (.inl 0) (.int (if ((vn : Int) + 1) < (m : Int) then ((vn : Int) + 1) else (m : Int))))) = H8 at *
            refine ⟨_, rfl, _, rfl, ite2 (fun g2 => ?_) (fun g2 => ?_)⟩
            · rw [hfB] at g2
              obtain ⟨m2, c1, c2⟩ := a3 g2
              have k5 : (putK kvs2 (.inl 0) (.int (if ((vn : Int) + 1) < (m : Int) then ((vn : Int) + 1) else (m : Int)))).length ≤ 5 := by
                have := putK_len kvs2 (.inl 0) (.int (if ((vn : Int) + 1) < (m : Int) then ((vn : Int) + 1) else (m : Int)))
                omega
              refine ⟨_, rfl, _, _, rfl, rfl, _, _, rfl, ?_⟩
              rw [esp]
              refine ⟨_, rfl, pF, rfl, .inl ⟨_, .inl hF7⟩, _, rfl, _, rfl, _, rfl, dB, .inl (kn : Int), ep, kvs, _, rfl, rfl, hB7, hval, _, DGet.k (k := .inl ((min 3 (kn + 1) : Nat) : Int)) hF7, _, rfl, _, rfl, dB, .inl (kn : Int), ep, kvs, _, rfl, rfl, hB7, hval, (m2 : Int), _, by rw [c1], _, rfl, _, rfl, pF, _, rfl, DPut.k (k := .inl ((min 3 (kn + 1) : Nat) : Int)) hF7 (by omega), ?_⟩
              exact ⟨_, _, _, _, _, _, _, rfl, fun b' o h1 h2 h3 => by rw [upd_ne h2]; exact s7 b' o h1 h2 h3, by rw [upd_ne hFB]; exact hB7, upd_same, c2⟩
            · rw [hfB] at g2
              exact ⟨_, _, _, _, _, _, _, rfl, s7, hB7, hF7, a2 (Bool.eq_false_iff.mpr g2)⟩
          · have he0 : esc.length = 0 := by
              rcases hel with h | h
              · exact h
              · exfalso
                apply g
                have : esc ≠ Str.ofString "" := fun q => by rw [q] at h; cases h
                rw [decide_eq_false (fun q => this (by injection q))]
                rfl
            obtain ⟨a2, a3⟩ := tI.plain (fun h => hnd r c (.inr h)) he0 dI hj
            have k4 : kvs2.length ≤ 1 := by
              rw [tI.2 he0]
              split
              · exact Nat.zero_le _
              · split
                · exact Nat.zero_le _
                · exact Nat.le_refl _
            refine ⟨_, rfl, _, rfl, ite2 (fun g2 => ?_) (fun g2 => ?_)⟩
            · rw [hfB] at g2
              obtain ⟨m2, c1, c2⟩ := a3 g2
              refine ⟨_, rfl, _, _, rfl, rfl, _, _, rfl, ?_⟩
              rw [esp]
              refine ⟨_, rfl, pF, rfl, .inl ⟨_, .inl hF6⟩, _, rfl, _, rfl, _, rfl, dB, .inl (kn : Int), ep, kvs, _, rfl, rfl, hB6, hval, _, DGet.k (k := .inl ((min 3 (kn + 1) : Nat) : Int)) hF6, _, rfl, _, rfl, dB, .inl (kn : Int), ep, kvs, _, rfl, rfl, hB6, hval, (m2 : Int), _, by rw [c1], _, rfl, _, rfl, pF, _, rfl, DPut.k (k := .inl ((min 3 (kn + 1) : Nat) : Int)) hF6 (by omega), ?_⟩
              exact ⟨_, _, _, _, _, _, _, rfl, fun b' o h1 h2 h3 => by rw [upd_ne h2]; exact s6 b' o h1 h2 h3, by rw [upd_ne hFB]; exact hB6, upd_same, c2⟩
            · rw [hfB] at g2
              exact ⟨_, _, _, _, _, _, _, rfl, s6, hB6, hF6, a2 (Bool.eq_false_iff.mpr g2)⟩
      · subst hσ
        refine hU _ _ ⟨_, rfl, pF, kvs2, _, _, _, _, _, _, _, _, rfl, fun b' o h => ?_, ?_, npF1, hFR, hF6, ?_⟩
        · exact s6 _ _ (fun g => by rw [g, ndB] at h; cases h) (fun g => by rw [g, npF1] at h; cases h) (s5 _ _ h)
        · exact s6 _ _ (Ne.symm hdR) (Ne.symm hFR) hR5
        · rw [show nX - (i + 1) = pN by omega, ecr]
          exact tI.done (fun h => hnd r c h) dI
    · subst hσ
      refine hU _ _ ?_
      rw [List.length_reverse, List.length_map, List.length_range, Nat.sub_self, List.drop_zero] at dI
      have s05 := s1.trans s5
      have hl4 := dI.len hel
      refine ⟨_, rfl, fun pE npE => ?_⟩
      have hBE : dB ≠ pE := fun g => by rw [g, npE] at hdB; cases hdB
      have s6 := s05.trans (Same.new (o := .dK []) npE)
      have hdB6 : upd H5 pE (.dK []) dB = some (.dK kvs) := by rw [upd_ne hBE]; exact hdB
      have hpE6 : upd H5 pE (.dK []) pE = some (.dK []) := upd_same
      refine ⟨dB, pE, kvs, rfl, rfl, hdB6, hpE6, _, rfl, ite2 (fun g => ?_) (fun g => ?_)⟩
      · have ek : kvs = [] := List.isEmpty_iff.mp g
        rw [ek] at dI
        obtain ⟨h0, hE⟩ := dI.nil hel
        have h0 : esc = Str.ofString "" := str_ext (by rw [List.length_eq_zero_iff.mp ((len_list esc).trans h0)]; rfl)
        exact hR0 _ _ (e h0 hE _ s6)
      · have ek : kvs ≠ [] := fun q => g (by rw [q]; rfl)
        refine ⟨_, rfl, dB, kvs, rfl, hdB6, fun ep => ?_⟩
        have hdB7 := upd_same (H := upd H5 pE (.dK [])) (a := dB) (o := dE P w dB ep kvs)
        have s7 : Same H1 (upd (upd H5 pE (.dK [])) dB (dE P w dB ep kvs)) := fun b' o h => by
          have hne : b' ≠ dB := fun g => by rw [g, ndB] at h; cases h
          rw [upd_ne hne]
          exact (s5.trans (Same.new npE)) _ _ h
        generalize upd (upd H5 pE (.dK [])) dB (dE P w dB ep kvs) = H7 at *
        refine fun pC npC => ?_
        have hdC : dB ≠ pC := ne_of_none hdB7 npC
        refine loop_new (fun j => some (kvs.getD j (.inl 0, .non)).2) (fun σ => ∃ u, σ = [u, some (.ref dB)]) ⟨none, rfl⟩ npC (by omega) (itok_dict (by rw [upd_ne hdC]; exact hdB7) hdC) (fun j σ H8 C hj ⟨u, hu⟩ s8 hC => ?_) (fun σ H8 s8 hC8 => ?_)
        · subst hu
          have hjm : kvs[j]? = some (kvs.getD j (.inl 0, .non)) := by
            rw [List.getElem?_eq_getElem hj, List.getD_eq_getElem?_getD, List.getElem?_eq_getElem hj]; rfl
          obtain ⟨kn, vn, ep1, hk3, hval⟩ := dI.kv hel (List.mem_of_getElem? hjm)
          have ei : (kvs.map fun kv => kV kv.1).getD j .non = kV (.inl (kn : Int)) := by
            rw [List.getD_eq_getElem?_getD, List.getElem?_map, hjm, ep1]; rfl
          rw [ei]
          dsimp only [tYes, gName]
          rw [if_pos rfl]
          refine ⟨_, rfl, _, rfl, dB, .inl (kn : Int), ep, kvs, _, rfl, rfl, s8 _ _ hdB7, hval, ?_⟩
          rw [ep1] at hC
          exact hC _ _ ⟨_, rfl⟩ (Same.refl _)
        · rw [flatN_map] at hC8
          have e8 : (List.range kvs.length).map (fun j => (kvs.getD j (.inl 0, .non)).2) = kvs.map (·.2) := by
            refine List.ext_getElem (by simp) fun i h1 h2 => ?_
            simp at h1
            simp [h1]
          rw [e8] at hC8
          have e9 : ∃ ns : List Int, kvs.map (·.2) = ns.map V.int := ints_of fun p hp => by
            obtain ⟨kn, vn, ep1, _⟩ := dI.kv hel hp
            exact ⟨_, by rw [ep1]⟩
          obtain ⟨ns, ens⟩ := e9
          have hnl : ns.length = kvs.length := by have := congrArg List.length ens; simpa using this.symm
          rw [ens] at hC8
          refine ⟨pC, ns, rfl, SqL.of hC8, by have := List.length_pos_iff.mpr ek; omega, fun M hM hle => ?_⟩
          obtain ⟨l1, l2⟩ := dI.least hel ek (M := M) (by rw [ens]; exact List.mem_map_of_mem hM) (fun a ha => by
            rw [ens] at ha
            obtain ⟨a', ha', e'⟩ := List.mem_map.mp ha
            injection e' with e'
            rw [← e']
            exact hle a' ha')
          rw [l2]
          refine hR0 _ _ (q ?_ _ ((s1.trans s7).trans s8))
          rcases l1 with h | h
          · exact .inl fun g => by rw [g] at h; cases h
          · exact .inr h
end
end T1
namespace T1
open PySem L2
inductive spUnput : List V → Hp → VK → XK → Prop where
  | mk {vs : List V} {H : Hp} {Q : VK} {E : XK} (z v b x wr : _) (qd : Addr) (D : Dr) (esc : Str) (c1 : vs = [v, .ref qd, .str wr, .str x]) (c3 : Rep z H v (bkD b)) (c4 : BkOk b) (c5 : H qd = some (.tup [.str D.1, .int D.2.1, .str D.2.2])) (c6 : 0 ≤ D.2.1 ∧ D.2.1 < b.length) (c7 : ∃ t ∈ b, D ∈ t.2) (c8 : x.length ≤ 20000) (d3 : esc = (b.getD D.2.1.toNat tg0).1)
    (ho : esc.length = 1 ∨ needE esc (inMarks b D.2.1 D.2.2) D.2.2 x.cps.toList = false) (hw : (wr ++ D.2.2).cps.toList = (putW esc (inMarks b D.2.1 D.2.2) D.2.2 x.cps.toList).cps.toList)
    (q : ∀ H', Same H H' → Q (.int (costG esc (inMarks b D.2.1 D.2.2) D.2.2 x.cps.toList : Nat)) H') : spUnput vs H Q E
section
variable {P : Program} {w : World} {K : PySem.W.Frag} {mg : Str → Option Value} {base : Heap}
theorem scUnput : FnScope ["book", "door", "written", "text", "escape", "marks", "whole", "found", "place", "escapes", "mark", "rest"] ["book", "door", "written", "text"] (defScope lUnput) := ⟨rfl, rfl, rfl, by decide +kernel, rfl, by decide +kernel, by decide +kernel⟩
theorem un_turn {esc close : Str} {ms : List Str} {c : Nat} {r : List Nat} (ho : esc.length = 1 ∨ needE esc ms close (c :: r) = false) :
    (esc.length = 0 ∨ esc.length = 1) → (∃ e, esc = ⟨#[e]⟩ ∧ (putW esc ms close (c :: r)).cps.toList = e :: c :: (putW esc ms close r).cps.toList ∧ costG esc ms close (c :: r) = costG esc ms close r + 1) ∨
    ((⟨#[c]⟩ : Str) ≠ esc ∧ (putW esc ms close (c :: r)).cps.toList = c :: (putW esc ms close r).cps.toList ∧ costG esc ms close (c :: r) = costG esc ms close r ∧ ∀ m ∈ ms, ¬ (m.cps.toList <+: c :: (putW esc ms close r).cps.toList ∨ c :: (putW esc ms close r).cps.toList <+: m.cps.toList)) := fun _ => by
  cases hn : needC esc ms (putW esc ms close r) c with
  | true =>
    left
    have he : esc.length = 1 := ho.elim id fun g => by
      have g : (needE esc ms close r || needC esc ms (putW esc ms close r) c) = false := g
      rw [hn, Bool.or_true] at g
      cases g
    obtain ⟨e, ee⟩ : ∃ e, esc.cps.toList = [e] := List.length_eq_one_iff.mp (by rw [len_list]; exact he)
    refine ⟨e, str_ext ee, ?_, ?_⟩
    · show (if _ then _ else _ : Str).cps.toList = _
      rw [if_pos hn, app_list, app_list, one_list, ee]
      rfl
    · show (if _ then _ else _) = _
      rw [if_pos hn]
  | false =>
    right
    have hn2 := hn
    unfold needC at hn2
    obtain ⟨h1, h2⟩ := Bool.or_eq_false_iff.mp hn2
    refine ⟨of_decide_eq_false h1, ?_, ?_, fun m hm hh => ?_⟩
    · show (if _ then _ else _ : Str).cps.toList = _
      rw [if_neg (by rw [hn]; exact Bool.false_ne_true), app_list, one_list]
      rfl
    · show (if _ then _ else _) = _
      rw [if_neg (by rw [hn]; exact Bool.false_ne_true)]
    · unfold couldF at h2
      have h3 := List.any_eq_false.mp h2 m hm
      apply h3
      rw [Bool.or_eq_true, st0_iff, st0_iff, app_list, one_list]
      exact hh
theorem putW_closeP (esc : Str) (ms : List Str) (close : Str) : ∀ l : List Nat, close.length ≤ (putW esc ms close l).length
  | [] => Nat.le_refl _
  | c :: r => by
    have ih := putW_closeP esc ms close r
    show _ ≤ (if _ then _ else _ : Str).length
    split
    · rw [app_len, app_len]; omega
    · rw [app_len]; omega
theorem putW_more (esc : Str) (ms : List Str) (close : Str) (c : Nat) (r : List Nat) : close.length < (putW esc ms close (c :: r)).length := by
  have ih := putW_closeP esc ms close r
  have h1 : (⟨#[c]⟩ : Str).length = 1 := rfl
  show _ < (if _ then _ else _ : Str).length
  split
  · rw [app_len, app_len]; omega
  · rw [app_len]; omega
theorem iteF' {c A B : Prop} [Decidable c] (h : ¬ c) (g : B) : if c then A else B := by rw [if_neg h]; exact g
set_option maxHeartbeats 0 in
theorem ok_unput {f f1 : Addr} {fd fd1 : FuncData} (F : Fun K "_law_unput" "_law_unput" lUnput f fd) (T : TxtB mg)
    (k1 : PySem.W.keepIn K (.ref f1) = true) (b1 : Binds K fd1 ["book", "door"] []) (m1 : mg "_law_inside" = some (.ref f1)) (G1 : FnOk P w K mg base CX0 1 f1 fd1 ["book", "door"] spInside) : FnOk P w K mg base CX0 2 f fd ["book", "door", "written", "text"] spUnput := by
  refine F.ok scUnput (fun vs H Q E h => ?_) (fun cdv A outer s H vs Q E hr h => ?_)
  · obtain ⟨z, v, b, x, wr, qd, D, esc, rfl, _⟩ := h
    rfl
  · obtain ⟨z, v, b, x, wr, qd, D, esc, rfl, R0, hok, hqd, hin, hDb, hxl, hesc, ho, hw, q⟩ := h
    have nd := scUnput.nd
    have hr1 : Room 1 _ := hr.mono (by decide)
    refine ⟨_, pss_cons (ps_asg (pe_call G1 hr1 rfl m1 k1 b1 .nil pass0 (pa_cons (pv 0) (pa_cons (pv 1) pa_nil))) (pg_tupL rfl (pgs_cons (pg_name (i := 4) nd rfl (Or.inl rfl)) (pgs_cons (pg_name (i := 5) nd rfl (Or.inl rfl)) pgs_nil))))
      (pss_cons (ps_set (i := 6) nd rfl (Or.inl rfl) (pe_op op_add_str (pv 2) (pe_ix ix_tup (pv 1) pe_int (fun _ _ => rfl))))
      (pss_cons (ps_set (i := 7) nd rfl (Or.inl rfl) pe_str)
      (pss_cons (ps_set (i := 8) nd rfl (Or.inl rfl) pe_int)
      (pss_cons (ps_set (i := 9) nd rfl (Or.inl rfl) pe_int)
      (pss_cons (ps_while PassesOwn.never (pt_cmpR op_lt (pv 8) (pe_callB call_len_str (by rfl) T.len b_len (pa_cons (pv 2) pa_nil)) (nomark _))
        (pss_one (ps_if (PW.pt (pw_and (pt_cmpR op_ne (pv 4) pe_str (nomark _)) (pw_and1 (pt_cmpR op_eq (pe_ix ix_str (pv 2) (pv 8) (fun _ _ => rfl)) (pv 4) (nomark _)))))
          (pss_cons (ps_if (pt_cmpR op_ge (pe_op op_add (pv 8) pe_int) (pe_callB call_len_str (by rfl) T.len b_len (pa_cons (pv 2) pa_nil)) (nomark _)) (pss_one (ps_ret pe_non)) pss_nil)
          (pss_cons (ps_set (i := 7) nd rfl (Or.inl rfl) (pe_op op_add_str (pv 7) (pe_ix ix_str (pv 2) (pe_op op_add (pv 8) pe_int) (fun _ _ => rfl))))
          (pss_cons (ps_set (i := 8) nd rfl (Or.inl rfl) (pe_op op_add (pv 8) pe_int))
          (pss_one (ps_set (i := 9) nd rfl (Or.inl rfl) (pe_op op_add (pv 9) pe_int))))))
          (pss_cons (ps_for PassesOwn.never rfl (pi_list (pv 5)) (pg_name (i := 10) nd rfl (Or.inl rfl))
            (pss_cons (ps_set (i := 11) nd rfl (Or.inl rfl) (pe_slice sl_str (pv 6) (po_some (pv 8)) (po_some (pe_op op_add (pv 8) (pe_callB call_len_str (by rfl) T.len b_len (pa_cons (pv 10) pa_nil))))))
            (pss_one (ps_if (pt_cmpR op_eq (pe_slice sl_str (pv 10) po_none (po_some (pe_callB call_len_str (by rfl) T.len b_len (pa_cons (pv 11) pa_nil)))) (pv 11) (nomark _)) (pss_one (ps_ret pe_non)) pss_nil))))
          (pss_cons (ps_set (i := 7) nd rfl (Or.inl rfl) (pe_op op_add_str (pv 7) (pe_ix ix_str (pv 2) (pv 8) (fun _ _ => rfl))))
          (pss_one (ps_set (i := 8) nd rfl (Or.inl rfl) (pe_op op_add (pv 8) pe_int))))))))
      (pss_cons (ps_if (pt_cmpR op_ne (pv 7) (pv 3) (nomark _)) (pss_one (ps_ret pe_non)) pss_nil)
      (pss_one (ps_ret (pv 9))))))))), ?_⟩
    dsimp only [cxOf, Cx.nox, Cx.wish]
    have big2 : (100000 : Nat) ≤ sizeLine := by rw [sizeLine_eq]; decide
    obtain ⟨hb1, hb6, htok, hbB⟩ := id hok
    refine D_hide fun D0 _ hR0 _ _ => seq_hide fun U hU => ?_
    refine ⟨_, rfl, _, rfl, z, v, b, qd, D, rfl, R0, hok, hqd, hin, fun pI pM H1 s1 npI npM hpI hpM => ?_⟩
    refine ⟨pI, _, rfl, SqL.of hpI, rfl, _, _, rfl, _, _, rfl, rfl, hU _ _ (seq_hide fun U hU => ?_)⟩
    rw [← hesc]
    have hqd1 := s1 _ _ hqd
    have hms : ∀ m ∈ inMarks b D.2.1 D.2.2, 1 ≤ m.length ∧ m.length ≤ 4 ∧ ∀ e, esc.cps.toList = [e] → ¬ e ∈ m.cps.toList := fun m hm => by
      rw [hesc]
      exact in_ms hok hDb hin hm
    have hcl : D.2.2.length ≤ 4 := (hms _ List.mem_cons_self).2.1
    have hel : esc.length = 0 ∨ esc.length = 1 := by
      have := esc_le1 (htok _ (getD_mem tg0 (show D.2.1.toNat < b.length by omega))).1
      rw [← hesc] at this
      omega
    have hxL : x.cps.toList.length = x.length := len_list x
    have hWl := putW_len esc (inMarks b D.2.1 D.2.2) D.2.2 (by omega) x.cps.toList
    have hwl : (wr ++ D.2.2).length = (putW esc (inMarks b D.2.1 D.2.2) D.2.2 x.cps.toList).length := by rw [← len_list, hw, len_list]
    have hwl2 := hwl
    rw [app_len] at hwl2
    refine ⟨_, rfl, _, rfl, qd, _, 2, _, rfl, rfl, SqT.of hqd1, atI_nat (j := 2) rfl, _, _, rfl, rfl, by omega, hU _ _ (seq_hide fun U hU => ?_)⟩
    refine hU _ _ (seq_hide fun U hU => hU _ _ (seq_hide fun U hU => hU _ _ (seq_hide fun U hU => ?_)))
    have hlm : ∀ m ∈ lawMarks b D, m ∈ inMarks b D.2.1 D.2.2 := fun m hm => by
      unfold lawMarks at hm
      unfold inMarks
      rcases List.mem_append.mp hm with h | h
      · exact List.mem_cons_of_mem _ h
      · rw [List.mem_singleton.mp h]; exact List.mem_cons_self
    generalize inMarks b D.2.1 D.2.2 = ms at *
    refine while_by (fun σ H3 => ∃ (j pN k : Nat) (u10 u11 : Option V), j ≤ x.length ∧ σ = [some v, some (.ref qd), some (.str wr), some (.str x), some (.str esc), some (.ref pM), some (.str (wr ++ D.2.2)), some (.str ⟨(x.cps.toList.take j).toArray⟩), some (.int (pN : Int)), some (.int (k : Int)), u10, u11] ∧ Same H1 H3 ∧ pN ≤ (wr ++ D.2.2).length ∧ (wr ++ D.2.2).cps.toList.drop pN = (putW esc ms D.2.2 (x.cps.toList.drop j)).cps.toList ∧ k + costG esc ms D.2.2 (x.cps.toList.drop j) = costG esc ms D.2.2 x.cps.toList)
      (fun σ H3 => match σ[8]? with | some (some (V.int i)) => (wr ++ D.2.2).length - i.toNat | _ => 0) ⟨0, 0, 0, _, _, Nat.zero_le _, rfl, Same.refl _, Nat.zero_le _, by rw [List.drop_zero, List.drop_zero]; exact hw, by rw [List.drop_zero, Nat.zero_add]⟩ ?_ ?_
    · rintro σ H3 ⟨j, pN, k, u10, u11, hj, rfl, s3, hpN, hdr, hk⟩
      have hdl : (wr ++ D.2.2).length - pN = (putW esc ms D.2.2 (x.cps.toList.drop j)).length := by
        rw [← len_list (putW _ _ _ _), ← hdr, List.length_drop, len_list]
      have hWj : D.2.2.length ≤ (putW esc ms D.2.2 (x.cps.toList.drop j)).length := putW_closeP esc ms D.2.2 _
      have hwa : (wr ++ D.2.2).length = wr.length + D.2.2.length := app_len _ _
      refine ⟨_, rfl, _, rfl, wr, rfl, by omega, _, _, rfl, rfl, _, rfl, ?_⟩
      refine ite2 (fun hlt => ?_) (fun hlt => ?_)
      · have hlt : pN < wr.length := by have := of_decide_eq_true hlt; omega
        have hjn : j < x.cps.toList.length := by
          rcases Nat.lt_or_ge j x.cps.toList.length with g | g
          · exact g
          · exfalso
            rw [List.drop_of_length_le g] at hdl
            have hdl : (wr ++ D.2.2).length - pN = D.2.2.length := hdl
            omega
        obtain ⟨c, hc⟩ : ∃ c, x.cps.toList[j]? = some c := ⟨_, List.getElem?_eq_getElem hjn⟩
        obtain ⟨r, hrr⟩ : ∃ r, r = x.cps.toList.drop (j + 1) := ⟨_, rfl⟩
        have ecr : x.cps.toList.drop j = c :: r := by
          rw [hrr, List.drop_eq_getElem_cons hjn]
          rw [List.getElem?_eq_getElem hjn] at hc
          injection hc with hc
          rw [hc]
        have hoj : esc.length = 1 ∨ needE esc ms D.2.2 (c :: r) = false := ho.imp id fun g => by
          rw [← ecr]
          refine Bool.eq_false_iff.mpr fun h => ?_
          have := needE_drop _ j h
          rw [g] at this
          cases this
        have etk : (⟨(x.cps.toList.take j).toArray⟩ : Str) ++ ⟨#[c]⟩ = ⟨(x.cps.toList.take (j + 1)).toArray⟩ := str_ext (by
          rw [app_list, one_list, take_snoc hc])
        have etl : (⟨(x.cps.toList.take j).toArray⟩ : Str).length = j := by
          rw [← len_list]
          show ((x.cps.toList.take j).toArray.toList).length = j
          rw [List.length_take]
          omega
        rw [ecr] at hdr hk
        have atW : ∀ i, pN + i < wr.length → ∀ d, ((wr ++ D.2.2).cps.toList.drop pN)[i]? = some d → wr.cps.toList[pN + i]? = some d := fun i hi d hd => by
          rw [List.getElem?_drop, app_list, List.getElem?_append_left (by rw [len_list]; exact hi)] at hd
          exact hd
        have hWr : D.2.2.length ≤ (putW esc ms D.2.2 r).length := putW_closeP esc ms D.2.2 _
        rcases un_turn hoj hel with ⟨e, he, hp1, hp2⟩ | ⟨hne, hp1, hp2, hno⟩
        · rw [hp1] at hdr
          rw [hp2] at hk
          have hl2 := congrArg List.length hdr
          rw [List.length_drop, len_list, List.length_cons, List.length_cons, len_list] at hl2
          have a0 : wr.cps.toList[pN]? = some e := atW 0 (by omega) e (by rw [hdr]; rfl)
          have a1 : wr.cps.toList[pN + 1]? = some c := atW 1 (by omega) c (by rw [hdr]; rfl)
          have hne1 : esc ≠ Str.ofString "" := fun g => by
            rw [he] at g
            have : (1 : Nat) = 0 := congrArg Str.length g
            cases this
          refine ⟨_, rfl, rfl, _, rfl, ?_⟩
          rw [decide_strV, decide_eq_false hne1]
          refine iteT ?_
          refine ⟨_, rfl, _, rfl, wr, _, e, rfl, rfl, by omega, atI_nat a0, _, rfl, rfl, _, rfl, ?_⟩
          rw [decide_strV, decide_eq_true he.symm]
          refine iteT ?_
          refine ⟨_, rfl, _, _, rfl, rfl, _, rfl, wr, rfl, by omega, _, _, rfl, rfl, _, rfl, ite2 (fun g => ?_) (fun _ => ?_)⟩
          · exfalso
            have := of_decide_eq_true g
            omega
          · refine ⟨_, rfl, _, rfl, _, rfl, _, _, rfl, rfl, wr, _, c, rfl, rfl, by omega, atI_nat (j := pN + 1) a1, _, _, rfl, rfl, by rw [etl]; show j + 1 ≤ _; omega, _, rfl, _, _, rfl, rfl, _, rfl, _, _, rfl, rfl, ⟨j + 1, pN + 2, k + 1, u10, u11, by omega, ?_, s3, by omega, ?_, ?_⟩, ?_⟩
            · rw [← etk]; rfl
            · rw [← hrr, ← List.drop_drop, hdr]; rfl
            · rw [← hrr]; omega
            · show (wr ++ D.2.2).length - ((pN : Int) + 2).toNat < (wr ++ D.2.2).length - ((pN : Int)).toNat
              omega
        · rw [hp1] at hdr
          rw [hp2] at hk
          have hl2 := congrArg List.length hdr
          rw [List.length_drop, len_list, List.length_cons, len_list] at hl2
          have a0 : wr.cps.toList[pN]? = some c := atW 0 (by omega) c (by rw [hdr]; rfl)
          have hM3 := s3 _ _ hpM
          refine ⟨_, rfl, rfl, _, rfl, ite_both (fun g1 hG => ?_) (iteF ?_)⟩
          · refine ⟨_, rfl, _, rfl, wr, _, c, rfl, rfl, by omega, atI_nat a0, _, rfl, rfl, _, rfl, ?_⟩
            rw [decide_strV, decide_eq_false hne]
            exact hG.out
          · refine seq_hide fun U2 hU2 => ?_
            refine ⟨_, rfl, pM, rfl, ⟨_, SqL.of hM3⟩, for_list (K := K) (a := pM) (xs := (lawMarks b D).map V.str) (fun q σ H7 => H7 = H3 ∧ ∃ u10 u11, σ = [some v, some (.ref qd), some (.str wr), some (.str x), some (.str esc), some (.ref pM), some (.str (wr ++ D.2.2)), some (.str ⟨(x.cps.toList.take j).toArray⟩), some (.int (pN : Int)), some (.int (k : Int)), u10, u11]) ⟨rfl, u10, u11, rfl⟩ (fun q σ H7 _ ⟨h, _⟩ => by rw [h]; exact SqL.of hM3) (fun q mv σ H7 hq ⟨h7, u10, u11, hσ⟩ => ?_) (fun σ H7 ⟨h7, u10, u11, hσ⟩ => ?_)⟩
            · subst h7 hσ
              obtain ⟨m, hqm, rfl⟩ : ∃ m, (lawMarks b D)[q]? = some m ∧ mv = V.str m := by
                rw [List.getElem?_map] at hq
                cases e : (lawMarks b D)[q]? with
                | none => rw [e] at hq; cases hq
                | some m => rw [e] at hq; injection hq with hq; exact ⟨m, rfl, hq.symm⟩
              have hmm := hlm m (List.mem_of_getElem? hqm)
              obtain ⟨hm1, hm4, _⟩ := hms m hmm
              show gName _ _ _ _ _
              dsimp only [gName]
              refine ⟨_, rfl, _, rfl, _, rfl, _, rfl, _, rfl, m, rfl, by omega, _, _, rfl, rfl, _, rfl, _, rfl, by omega, ?_⟩
              have hcl1 := cut_list (wr ++ D.2.2) pN m.length
              rw [hdr] at hcl1
              generalize cutS (wr ++ D.2.2) (some (pN : Int)) (some ((pN : Int) + (m.length : Int))) = rest at *
              have hrestl : rest.length ≤ 4 := by rw [← len_list, hcl1, List.length_take]; omega
              have hrestm : rest.length ≤ m.length := by rw [← len_list rest, hcl1, List.length_take]; omega
              refine ⟨_, rfl, _, rfl, rest, rfl, by omega, _, rfl, _, rfl, by omega, _, rfl, rfl, _, rfl, ite2 (fun g1 => ?_) (fun g1 => ?_)⟩
              · exfalso
                rw [decide_strV] at g1
                have g1 := congrArg (fun s : Str => s.cps.toList) (of_decide_eq_true g1)
                have g1 : (cutS m none (some (rest.length : Int))).cps.toList = rest.cps.toList := g1
                rw [cut_to4 m hrestm, ← len_list rest, hcl1, ← len_list m, raw_iff] at g1
                exact hno m hmm g1
              · exact ⟨rfl, _, _, rfl⟩
            · subst h7 hσ
              refine hU2 _ _ ?_
              refine ⟨_, rfl, _, rfl, _, rfl, wr, _, c, rfl, rfl, by omega, atI_nat a0, _, _, rfl, rfl, by rw [etl]; show j + 1 ≤ _; omega, _, rfl, _, _, rfl, rfl, ⟨j + 1, pN + 1, k, u10, u11, by omega, ?_, s3, by omega, ?_, ?_⟩, ?_⟩
              · rw [← etk]; rfl
              · rw [← hrr, ← List.drop_drop, hdr]; rfl
              · rw [← hrr]; omega
              · show (wr ++ D.2.2).length - ((pN : Int) + 1).toNat < (wr ++ D.2.2).length - ((pN : Int)).toNat
                omega
      · have hjn : ¬ j < x.cps.toList.length := fun g => by
          have hlt : ¬ pN < wr.length := fun q => hlt (decide_eq_true (by omega))
          have : D.2.2.length < (putW esc ms D.2.2 (x.cps.toList.drop j)).length := by
            rw [List.drop_eq_getElem_cons g]
            exact putW_more _ _ _ _ _
          omega
        have ej : j = x.length := by omega
        refine hU _ _ ?_
        rw [ej, ← hxL, List.take_length]
        rw [ej, ← hxL, List.drop_length] at hk
        have hk : k + 0 = _ := hk
        refine ⟨_, rfl, _, rfl, rfl, _, rfl, ?_⟩
        have ex : (⟨x.cps.toList.toArray⟩ : Str) = x := str_ext rfl
        rw [ex]
        refine iteF' (by rw [decide_strV, decide_eq_true rfl]; decide) ?_
        refine ⟨_, rfl, hR0 _ _ ?_⟩
        rw [show (k : Int) = ((costG esc ms D.2.2 x.cps.toList : Nat) : Int) by omega]
        exact q _ (s1.trans s3)
    · rintro σ H3 Q1 Q2 hq ⟨v1, e1, v2, e2, x2, e3, h4, i1, i2, e5, e6, b1, e7, h⟩
      exact ⟨v1, e1, v2, e2, x2, e3, h4, i1, i2, e5, e6, b1, e7, hq _ _ h⟩
end
end T1
namespace T1
open PySem L2
def prD (p : Nat × Nat) : D := .tup [.int (p.1 : Int), .int (p.2 : Int)]
def drsP (b : Bk) (n : Nat) : List (Nat × Nat) := (List.range n).flatMap fun t => (List.range (b.getD t tg0).2.length).map fun i => (t, i)
theorem drsP_succ (b : Bk) (n : Nat) : drsP b (n + 1) = drsP b n ++ (List.range (b.getD n tg0).2.length).map fun i => (n, i) := by
  unfold drsP
  rw [List.range_succ, List.flatMap_append]
  congr 1
  simp
theorem drsP_mem {b : Bk} {n : Nat} {p : Nat × Nat} (h : p ∈ drsP b n) : p.1 < n ∧ p.2 < (b.getD p.1 tg0).2.length := by
  obtain ⟨t, ht, h2⟩ := List.mem_flatMap.mp h
  obtain ⟨i, hi, rfl⟩ := List.mem_map.mp h2
  exact ⟨List.mem_range.mp ht, List.mem_range.mp hi⟩
theorem reps_ix {z : Addr} {H : Hp} : ∀ {vs : List V} {ds : List D} {k : Nat} {d : D}, Reps z H vs ds → ds[k]? = some d → ∃ u, vs[k]? = some u ∧ Rep z H u d
  | _, _, 0, d, .cons (v := v) r t, h => ⟨v, rfl, by cases h; exact r⟩
  | _, _, k + 1, d, .cons r t, h => by
    obtain ⟨u, h1, h2⟩ := reps_ix t (k := k) (d := d) (by simpa using h)
    exact ⟨u, by simpa using h1, h2⟩
inductive spDoor : List V → Hp → VK → XK → Prop where
  | mk {vs : List V} {H : Hp} {Q : VK} {E : XK} (z v b : _) (c1 : vs = [.ref z, v]) (c2 : Bag z H) (c3 : Rep z H v (bkD b)) (c4 : BkOk b) (q0 : ∀ H', Aft z H H' → Q .non H')
    (q : ∀ (q : Addr) (t i : Nat) H', Aft z H H' → q ≠ z → H' q = some (.tup [.int (t : Int), .int (i : Int)]) → t < b.length → i < (b.getD t tg0).2.length → Q (.ref q) H') : spDoor vs H Q E
section
variable {P : Program} {w : World} {K : PySem.W.Frag} {mg : Str → Option Value} {base : Heap}
theorem scDoorL : FnScope ["bag", "book", "some", "tongue"] ["bag", "book"] (defScope lDoor) := ⟨rfl, rfl, rfl, by decide +kernel, rfl, by decide +kernel, by decide +kernel⟩
theorem ndNT : (["number", "tongue"] : List Str).Nodup := by decide +kernel
set_option maxHeartbeats 0 in
theorem ok_doorL {f f1 : Addr} {fd fd1 : FuncData} (F : Fun K "_law_door" "_law_door" lDoor f fd) (T : TxtB mg)
    (k1 : PySem.W.keepIn K (.ref f1) = true) (b1 : Binds K fd1 ["bag", "many"] []) (m1 : mg "_law_take" = some (.ref f1)) (G1 : FnOk P w K mg base CX0 1 f1 fd1 ["bag", "many"] spTake) : FnOk P w K mg base CX0 2 f fd ["bag", "book"] spDoor := by
  refine F.ok scDoorL (fun vs H Q E h => ?_) (fun cdv A outer s H vs Q E hr h => ?_)
  · obtain ⟨z, v, b, rfl, _⟩ := h
    rfl
  · obtain ⟨z, v, b, rfl, hB, R0, hok, q0, q⟩ := h
    have nd := scDoorL.nd
    have hr1 : Room 1 _ := hr.mono (by decide)
    refine ⟨_, pss_cons (ps_set (i := 2) nd rfl (Or.inl rfl) (pe_lst pa_nil))
      (pss_cons (ps_for PassesOwn.never rfl (pi_range1 rfl T.range (pa_cons (pe_callB call_len_seq (by rfl) T.len b_len (pa_cons (pv 1) pa_nil)) pa_nil)) (pg_name (i := 3) nd rfl (Or.inr rfl))
        (pss_one (ps_set (i := 2) nd rfl (Or.inl rfl) (pe_op op_cat (pv 2) (pe_comp1 (N' := ["number", "tongue"]) (js := [none, some 3]) rfl rfl (blk_of (defScope lDoor) (by decide +kernel)) ⟨rfl, Or.inr (Or.inl rfl), rfl, trivial⟩ (pi_range1 rfl T.range (pa_cons (pe_callB call_len_seq (by rfl) T.len b_len (pa_cons (pe_ix ix_tup (pe_ix ix_tup (pv 1) (pv 3) (fun _ _ => rfl)) pe_int (fun _ _ => rfl)) pa_nil)) pa_nil))
          (fun cl s H fp => pg_name (i := 0) ndNT rfl (Or.inl rfl)) (fun cl s H fp => pts_nil) (fun cl s H fp => pe_tup (pa_cons (pv 1) (pa_cons (pv 0) pa_nil))))))))
      (pss_cons (ps_if (pt_cmpR (op_eq_nil hr.units0) (pv 2) (pe_lst pa_nil) (nomark _)) (pss_one (ps_ret pe_non)) pss_nil)
      (pss_one (ps_ret (pe_ix ix_list (pv 2) (pe_call G1 hr1 rfl m1 k1 b1 .nil pass0 (pa_cons (pv 0) (pa_cons (pe_callB call_len_seq (by rfl) T.len b_len (pa_cons (pv 2) pa_nil)) pa_nil))) (fun _ _ => rfl)))))), ?_⟩
    dsimp only [cxOf, Cx.nox, Cx.wish]
    have big2 : (100000 : Nat) ≤ sizeLine := by rw [sizeLine_eq]; decide
    obtain ⟨hb1, hb6, htok, hbB⟩ := id hok
    obtain ⟨a, xs, rfl, haz, ha, hxl, R⟩ := rep_book R0
    have dlen : ∀ n, n ≤ b.length → (drsP b n).length ≤ 6 * n := fun n hn => by
      induction n with
      | zero => exact Nat.zero_le _
      | succ n ih =>
        rw [drsP_succ, List.length_append, List.length_map, List.length_range]
        have := ih (by omega)
        have := (htok _ (getD_mem tg0 (show n < b.length by omega))).2.1
        omega
    refine D_hide fun D0 _ hR0 _ _ => seq_hide fun U hU => ?_
    refine ⟨Nat.zero_le _, fun ps nps => hU _ _ (seq_hide fun U hU => ?_)⟩
    have s1 := Same.new (o := .lst []) nps
    refine ⟨_, rfl, a, xs, rfl, .inr (SqT.of (s1 _ _ ha)), _, rfl, by omega, by omega, ?_⟩
    refine for_range (fun n σ H3 => ∃ pl vs u3, σ = [some (.ref z), some (.ref a), some (.ref pl), u3] ∧ Same H H3 ∧ pl ≠ z ∧ H3 pl = some (.lst vs) ∧ Reps z H3 vs ((drsP b n).map prD)) ⟨ps, [], _, rfl, s1, hB.ne nps, upd_same, .nil⟩ (fun n σ H3 hn ⟨pl, vs, u3, hσ, s3, hplz, hpl, RV⟩ => ?_) (fun σ H3 ⟨pl, vs, u3, hσ, s3, hplz, hpl, RV⟩ => ?_)
    · subst hσ
      have hn : n < b.length := by omega
      obtain ⟨c, d, ys, ec, hcz, hdz, hc, hd, hyl, Ry⟩ := rep_tongue (reps_tongue (b := b) (i := n) (R.mono s3.x) hn)
      have hyl : ys.length = (b.getD n tg0).2.length := hyl
      have exv : xs[n]? = some (.ref c) := by
        have h1 : n < xs.length := by omega
        have h2 : xs.getD n .non = xs[n] := by simp [h1]
        rw [List.getElem?_eq_getElem h1, ← h2, ec]
      have hvl : vs.length = (drsP b n).length := by have := RV.length; simpa using this
      have dl := dlen n (by omega)
      have few := (htok _ (getD_mem tg0 hn)).2.1
      have hB3 := hB.same s3
      have e0 : (0 : Int) + (n : Int) = (n : Int) := by omega
      show gName _ _ _ _ _
      dsimp only [gName]
      rw [e0]
      refine ⟨_, rfl, _, rfl, _, rfl, a, xs, n, _, rfl, rfl, SqT.of (s3 _ _ ha), atI_nat exv, c, _, 1, _, rfl, rfl, SqT.of hc, atI_nat (j := 1) rfl, d, ys, rfl, .inr (SqT.of hd), _, rfl, by omega, by omega, fun pC npC => ?_⟩
      have etn : ((ys.length : Int)).toNat = (b.getD n tg0).2.length := by omega
      rw [etn]
      refine loop_repsF (z := z) (fun _ => true) (fun j => prD (n, j)) (fun σ => ∃ u, σ = [u, some (.int (n : Int))]) ⟨none, rfl⟩ npC (by omega) itok_rng (fun j => .tup (.cons (.int _) (.cons (.int _) .nil))) (fun j σ H5 Ct Cf hj ⟨u, hu⟩ s5 hCt hCf => ?_) (fun σ H5 ws s5 hC5 RW => ?_)
      · subst hu
        have e1 : (0 : Int) + (j : Int) = (j : Int) := by omega
        rw [e1]
        dsimp only [tYes, gName]
        rw [if_pos rfl]
        refine ⟨_, rfl, _, rfl, by show (2 : Nat) ≤ _; omega, fun pt npt => ?_⟩
        have s6 := Same.new (o := .tup [.int (n : Int), .int (j : Int)]) npt
        exact hCt rfl _ _ _ ⟨_, rfl⟩ s6 (.tup upd_same ((hB3.same s5).ne npt) (.cons (.int _) (.cons (.int _) .nil)))
      · have hwl : ws.length ≤ 6 := by
          have := RW.length
          rw [List.length_map] at this
          have h2 := List.length_filter_le (fun _ => true) (List.range (b.getD n tg0).2.length)
          rw [List.length_range] at h2
          omega
        refine ⟨pl, pC, vs, ws, rfl, rfl, s5 _ _ hpl, hC5, by omega, fun pn npn => ?_⟩
        have s6 := Same.new (o := .lst (vs ++ ws)) npn
        have s36 := s5.trans s6
        refine ⟨pn, vs ++ ws, _, rfl, s3.trans s36, (hB3.same s5).ne npn, upd_same, ?_⟩
        have ef : ((List.range (b.getD n tg0).2.length).filter fun _ => true).map (fun j => prD (n, j)) = ((List.range (b.getD n tg0).2.length).map fun i => (n, i)).map prD := by
          rw [List.filter_eq_self.mpr (fun _ _ => rfl), List.map_map]
          rfl
        rw [ef] at RW
        rw [drsP_succ, List.map_append]
        exact (RV.mono s36.x).append (RW.mono s6.x)
    · subst hσ
      refine hU _ _ ?_
      have eN : ((xs.length : Int)).toNat = b.length := by omega
      rw [eN] at RV
      have hvl : vs.length = (drsP b b.length).length := by have := RV.length; simpa using this
      have dl := dlen b.length (Nat.le_refl _)
      have hB3 := hB.same s3
      refine ⟨_, rfl, Nat.zero_le _, fun pE npE => ?_⟩
      have s4 := Same.new (o := .lst []) npE
      refine ⟨pl, pE, vs, rfl, rfl, s4 _ _ hpl, upd_same, _, rfl, ite2 (fun g => ?_) (fun g => ?_)⟩
      · exact hR0 _ _ (q0 _ ((Aft.refl hB).same (s3.trans s4)))
      · have hne : 0 < vs.length := List.length_pos_iff.mpr fun h => g (by rw [h]; rfl)
        have s34 := s3.trans s4
        have hB4 := hB3.same s4
        have RV4 := RV.mono s4.x (z := z)
        have hpl4 := s4 _ _ hpl
        generalize upd H3 pE (.lst []) = H4 at *
        refine ⟨_, rfl, _, rfl, _, rfl, pl, vs, rfl, .inl (SqL.of hpl4), z, _, rfl, hB4, by omega, by omega, fun k H5 hk a5 => ?_⟩
        have hk : k < vs.length := by omega
        have RV5 := RV4.mono a5.1 (z := z)
        obtain ⟨p, hp⟩ : ∃ p, (drsP b b.length)[k]? = some p := ⟨_, List.getElem?_eq_getElem (by omega)⟩
        obtain ⟨h1, h2⟩ := drsP_mem (List.mem_of_getElem? hp)
        obtain ⟨u, hu, Ru⟩ := reps_ix RV5 (k := k) (d := prD p) (by rw [List.getElem?_map, hp]; rfl)
        refine ⟨pl, vs, _, u, rfl, rfl, SqL.of (a5.1 _ _ hplz hpl4), atI_nat hu, ?_⟩
        cases Ru with
        | tup hq hqz rq =>
          cases rq with
          | cons r1 rq => cases rq with
            | cons r2 rq =>
              cases rq
              cases r1
              cases r2
              exact hR0 _ _ (q _ p.1 p.2 _ (((Aft.refl hB).same s34).trans a5) hqz hq h1 h2)
end
end T1
namespace T1
open PySem L2
inductive spOwnT : List V → Hp → VK → XK → Prop where
  | mk {vs : List V} {H : Hp} {Q : VK} {E : XK} (z v b : _) (qd : Addr) (D : Dr) (c1 : vs = [.ref z, v, .ref qd]) (c2 : Bag z H) (c3 : Rep z H v (bkD b)) (c4 : BkOk b) (c5 : H qd = some (.tup [.str D.1, .int D.2.1, .str D.2.2])) (c6 : 0 ≤ D.2.1 ∧ D.2.1 < b.length) (c7 : ∃ t ∈ b, D ∈ t.2)
    (q : ∀ x H', Aft z H H' → x.length ≤ 100 → Q (.str x) H') : spOwnT vs H Q E
theorem lawMarks_short {b : Bk} {D : Dr} (hok : BkOk b) (hin : 0 ≤ D.2.1 ∧ D.2.1 < b.length) (hDb : ∃ t ∈ b, D ∈ t.2) : (∀ m ∈ lawMarks b D, 1 ≤ m.length ∧ m.length ≤ 4) ∧ 1 ≤ (lawMarks b D).length ∧ (lawMarks b D).length ≤ 7 := by
  refine ⟨fun m hm => ?_, ?_, ?_⟩
  · have h : m ∈ inMarks b D.2.1 D.2.2 := by
      unfold lawMarks at hm
      unfold inMarks
      rcases List.mem_append.mp hm with h | h
      · exact List.mem_cons_of_mem _ h
      · rw [List.mem_singleton.mp h]; exact List.mem_cons_self
    obtain ⟨h1, h2, _⟩ := in_ms hok hDb hin h
    exact ⟨h1, h2⟩
  · unfold lawMarks
    rw [List.length_append]
    exact Nat.le_add_left _ _
  · unfold lawMarks opensOf
    rw [List.length_append, List.length_map]
    have := (hok.2.2.1 _ (getD_mem tg0 (show D.2.1.toNat < b.length by omega))).2.1
    show _ + 1 ≤ 7
    omega
section
variable {P : Program} {w : World} {K : PySem.W.Frag} {mg : Str → Option Value} {base : Heap}
theorem scOwnT : FnScope ["bag", "book", "door", "escape", "marks", "found", "turn", "mark"] ["bag", "book", "door"] (defScope lOwnText) := ⟨rfl, rfl, rfl, by decide +kernel, rfl, by decide +kernel, by decide +kernel⟩
set_option maxHeartbeats 0 in
theorem ok_ownT {f f1 f2 f3 : Addr} {fd fd1 fd2 fd3 : FuncData} (F : Fun K "_law_own_text" "_law_own_text" lOwnText f fd) (T : TxtB mg)
    (k1 : PySem.W.keepIn K (.ref f1) = true) (b1 : Binds K fd1 ["book", "door"] []) (m1 : mg "_law_inside" = some (.ref f1)) (G1 : FnOk P w K mg base CX0 1 f1 fd1 ["book", "door"] spInside)
    (k2 : PySem.W.keepIn K (.ref f2) = true) (b2 : Binds K fd2 ["bag", "book", "most"] []) (m2 : mg "_law_text" = some (.ref f2)) (G2 : FnOk P w K mg base CX0 2 f2 fd2 ["bag", "book", "most"] spText)
    (k3 : PySem.W.keepIn K (.ref f3) = true) (b3 : Binds K fd3 ["bag", "many"] []) (m3 : mg "_law_take" = some (.ref f3)) (G3 : FnOk P w K mg base CX0 1 f3 fd3 ["bag", "many"] spTake) : FnOk P w K mg base CX0 3 f fd ["bag", "book", "door"] spOwnT := by
  refine F.ok scOwnT (fun vs H Q E h => ?_) (fun cdv A outer s H vs Q E hr h => ?_)
  · obtain ⟨z, v, b, qd, D, rfl, _⟩ := h
    rfl
  · obtain ⟨z, v, b, qd, D, rfl, hB, R0, hok, hqd, hin, hDb, q⟩ := h
    have nd := scOwnT.nd
    have hr1 : Room 1 _ := hr.mono (by decide)
    refine ⟨_, pss_cons (ps_asg (pe_call G1 hr1 rfl m1 k1 b1 .nil pass0 (pa_cons (pv 1) (pa_cons (pv 2) pa_nil))) (pg_tupL rfl (pgs_cons (pg_name (i := 3) nd rfl (Or.inl rfl)) (pgs_cons (pg_name (i := 4) nd rfl (Or.inl rfl)) pgs_nil))))
      (pss_cons (ps_set (i := 5) nd rfl (Or.inl rfl) (pe_call G2 hr rfl m2 k2 b2 .nil pass0 (pa_cons (pv 0) (pa_cons (pv 1) (pa_K pe_int pa_nil)))))
      (pss_cons (ps_for PassesOwn.never rfl (pi_range1 rfl T.range (pa_cons (pe_call G3 hr1 rfl m3 k3 b3 .nil pass0 (pa_cons (pv 0) (pa_K pe_int pa_nil))) pa_nil)) (pg_name (i := 6) nd rfl (Or.inl rfl))
        (pss_one (ps_set (i := 5) nd rfl (Or.inl rfl) (pe_op op_add_str (pv 5) (pe_ix ix_list (pe_op op_cat (pv 4) (pe_lst (pa_K pe_str (pa_K pe_str (pa_cons (pv 3) pa_nil))))) (pe_call G3 hr1 rfl m3 k3 b3 .nil pass0 (pa_cons (pv 0) (pa_B (pe_op op_add (pe_callB call_len_seq (by rfl) T.len b_len (pa_cons (pv 4) pa_nil)) pe_int) pa_nil))) (fun _ _ => rfl))))))
      (pss_cons (ps_set (i := 7) nd rfl (Or.inl rfl) (pe_ix ix_list (pv 4) (pe_call G3 hr1 rfl m3 k3 b3 .nil pass0 (pa_cons (pv 0) (pa_cons (pe_callB call_len_seq (by rfl) T.len b_len (pa_cons (pv 4) pa_nil)) pa_nil))) (fun _ _ => rfl)))
      (pss_one (ps_ret (pe_op op_add_str (pv 5) (pe_slice sl_str (pv 7) po_none (po_some (pe_call G3 hr1 rfl m3 k3 b3 .nil pass0 (pa_cons (pv 0) (pa_B (pe_op op_add (pe_callB call_len_str (by rfl) T.len b_len (pa_cons (pv 7) pa_nil)) pe_int) pa_nil))))))))))), ?_⟩
    dsimp only [cxOf, Cx.nox, Cx.wish]
    have big2 : (100000 : Nat) ≤ sizeLine := by rw [sizeLine_eq]; decide
    obtain ⟨hb1, hb6, htok, hbB⟩ := id hok
    obtain ⟨hm4, hml1, hml7⟩ := lawMarks_short hok hin hDb
    have hel : (b.getD D.2.1.toNat tg0).1.length ≤ 1 := esc_le1 (htok _ (getD_mem tg0 (show D.2.1.toNat < b.length by omega))).1
    refine D_hide fun D0 _ hR0 _ _ => seq_hide fun U hU => ?_
    refine ⟨_, rfl, _, rfl, z, v, b, qd, D, rfl, R0, hok, hqd, hin, fun pI pM H1 s1 npI npM hpI hpM => ?_⟩
    have hpMz : pM ≠ z := hB.ne npM
    have hB1 := hB.same s1
    have R1 := R0.mono s1.x (z := z)
    generalize (b.getD D.2.1.toNat tg0).1 = esc at *
    refine ⟨pI, _, rfl, SqL.of hpI, rfl, _, _, rfl, _, _, rfl, rfl, hU _ _ (seq_hide fun U hU => ?_)⟩
    refine ⟨_, rfl, _, rfl, z, v, b, 10, rfl, hB1, R1, hok, by decide, by decide, fun x0 H2 a2 hx0 => hU _ _ (seq_hide fun U hU => ?_)⟩
    refine ⟨_, rfl, z, 8, rfl, a2.2, by decide, by decide, fun r1 H3 hr1' a3 => ⟨_, rfl, by omega, by omega, ?_⟩⟩
    have a13 := a2.trans a3
    refine for_range (fun n σ H4 => ∃ x u6 u7, σ = [some (.ref z), some v, some (.ref qd), some (.str esc), some (.ref pM), some (.str x), u6, u7] ∧ Aft z H1 H4 ∧ x.length ≤ 40 + 4 * n) ⟨x0, _, _, rfl, a13, by omega⟩ (fun n σ H4 hn ⟨x, u6, u7, hσ, a4, hx⟩ => ?_) (fun σ H4 ⟨x, u6, u7, hσ, a4, hx⟩ => ?_)
    · subst hσ
      have hM4 := a4.1 _ _ hpMz hpM
      show gName _ _ _ _ _
      dsimp only [gName]
      refine ⟨_, rfl, _, rfl, _, rfl, by show (3 : Nat) ≤ _; omega, fun pS npS => ?_⟩
      have s5 := Same.new (o := .lst [.str "x", .str " ", .str esc]) npS
      have hM5 := s5 _ _ hM4
      have hS5 := upd_same (H := H4) (a := pS) (o := .lst [.str "x", .str " ", .str esc])
      have a5 := a4.same s5
      generalize upd H4 pS (.lst [.str "x", .str " ", .str esc]) = H5 at *
      refine ⟨pM, pS, _, _, rfl, rfl, hM5, hS5, by rw [List.length_map]; show _ + 3 ≤ _; omega, fun pC npC => ?_⟩
      have s6 := Same.new (o := .lst ((lawMarks b D).map V.str ++ [.str "x", .str " ", .str esc])) npC
      have hM6 := s6 _ _ hM5
      have hC6 := upd_same (H := H5) (a := pC) (o := .lst ((lawMarks b D).map V.str ++ [.str "x", .str " ", .str esc]))
      have a6 := a5.same s6
      have hpCz : pC ≠ z := a5.2.ne npC
      generalize upd H5 pC (.lst ((lawMarks b D).map V.str ++ [.str "x", .str " ", .str esc])) = H6 at *
      refine ⟨_, rfl, _, rfl, pM, _, rfl, .inl (SqL.of hM6), _, _, rfl, rfl, z, _, rfl, a6.2, by omega, by rw [List.length_map]; omega, fun k H7 hk a7 => ?_⟩
      rw [List.length_map] at hk
      obtain ⟨y, hy, hyl⟩ : ∃ y : Str, ((lawMarks b D).map V.str ++ [.str "x", .str " ", .str esc])[k]? = some (.str y) ∧ y.length ≤ 4 := by
        have e : (lawMarks b D).map V.str ++ [.str "x", .str " ", .str esc] = (lawMarks b D ++ [Str.ofString "x", Str.ofString " ", esc]).map V.str := by rw [List.map_append]; rfl
        have hk2 : k < (lawMarks b D ++ [Str.ofString "x", Str.ofString " ", esc]).length := by rw [List.length_append]; show _ < _ + 3; omega
        refine ⟨(lawMarks b D ++ [Str.ofString "x", Str.ofString " ", esc])[k], by rw [e, List.getElem?_map, List.getElem?_eq_getElem hk2]; rfl, ?_⟩
        rcases List.mem_append.mp (List.getElem_mem hk2) with h | h
        · exact (hm4 _ h).2
        · rcases List.mem_cons.mp h with h | h
          · rw [h]; decide
          · rcases List.mem_cons.mp h with h | h
            · rw [h]; decide
            · rw [List.mem_singleton.mp h]; omega
      refine ⟨pC, _, _, _, rfl, rfl, SqL.of (a7.1 _ _ hpCz hC6), atI_nat hy, _, _, rfl, rfl, by omega, x ++ y, _, _, rfl, a6.trans a7, by rw [app_len]; omega⟩
    · subst hσ
      have hx : x.length ≤ 68 := by omega
      have hM4 := a4.1 _ _ hpMz hpM
      refine hU _ _ ?_
      refine ⟨_, rfl, _, rfl, _, rfl, pM, _, rfl, .inl (SqL.of hM4), z, _, rfl, a4.2, by rw [List.length_map]; omega, by rw [List.length_map]; omega, fun k H7 hk a7 => ?_⟩
      rw [List.length_map] at hk
      have hk2 : k < (lawMarks b D).length := by omega
      have hm := hm4 _ (List.getElem_mem hk2)
      refine ⟨pM, _, _, .str (lawMarks b D)[k], rfl, rfl, SqL.of (a7.1 _ _ hpMz hM4), atI_nat (by rw [List.getElem?_map, List.getElem?_eq_getElem hk2]; rfl), ?_⟩
      generalize (lawMarks b D)[k] = m at *
      refine ⟨_, rfl, _, rfl, _, rfl, _, rfl, m, rfl, by omega, _, _, rfl, rfl, z, _, rfl, a7.2, by omega, by omega, fun k8 H8 hk8 a8 => ⟨_, rfl, m, rfl, by omega, _, _, rfl, rfl, ?_, ?_⟩⟩
      · have := cutS_len m none (some (k8 : Int))
        omega
      · refine hR0 _ _ (q _ _ (((Aft.refl hB).same s1).trans ((a4.trans a7).trans a8)) ?_)
        have := cutS_len m none (some (k8 : Int))
        rw [app_len]
        omega
end
end T1
namespace L2
open PySem PySem.Spec PyProof.Rows
theorem itok_rngU {ea : Addr} {ecl : Value} {lo : Int} {n : Nat} {H0 : Hp} {p : Addr} (h : H0 ea = some (exH ea ecl)) (hp : ea ≠ p) : ItOk (ItrU ea ecl lo n) n (fun i => .int (lo + i)) H0 p where
  go := fun i H h _ => h
  stop := fun H k => ⟨Nat.le_refl _, k ea _ hp h⟩
  yld := fun i H x H' _ _ q => q
theorem pe_isXo {X : Cx} {a : Expr} {ta : TE} {T : Str} {D : Addr} {p1 p2 pos : Pos} (hm : X.mg "isinstance" = none) (hm2 : X.mg T = some (.ref D)) (ha : PE X a ta) (hg : Gl X "isinstance" := by rfl) (hg2 : Gl X T := by rfl)
    (hs : starEach [a, .Name T p2] X.env = (false, eval a X.env) :: starEach [.Name T p2] X.env := by rfl) (hpl : (backTo pos (starEach [.Name T p2] X.env)).any (·.1) = false := by rfl) (hd : (T == ("__debug__" : Str)) = false := by decide) :
    PE X (.Call (.Name "isinstance" p1) [a, .Name T p2] [] pos) (tCB (rIsX X.K) (tCons ta (tCons (tC (.ref D)) tNil))) :=
  pe_callB (p := p1) (pos := pos) (X := X) call_isX hg hm T1.b_isinst (pa_cons ha (pa_cons (pe_glob (v := .ref D) (pos := p2) hg2 hm2 rfl hd) pa_nil) hs) (by decide) (by decide) hs hpl
theorem pe_isXb {X : Cx} {a : Expr} {ta : TE} {T : Str} {n : String} {p1 p2 pos : Pos} (hm : X.mg "isinstance" = none) (hm2 : X.mg T = none) (hb : bootBuiltins T = some (.type n)) (ha : PE X a ta) (hg : Gl X "isinstance" := by rfl) (hg2 : Gl X T := by rfl)
    (hs : starEach [a, .Name T p2] X.env = (false, eval a X.env) :: starEach [.Name T p2] X.env := by rfl) (hpl : (backTo pos (starEach [.Name T p2] X.env)).any (·.1) = false := by rfl) (hn : T ≠ "__name__" := by decide) (hd : (T == ("__debug__" : Str)) = false := by decide) :
    PE X (.Call (.Name "isinstance" p1) [a, .Name T p2] [] pos) (tCB (rIsX X.K) (tCons ta (tCons (tC (.ty n)) tNil))) :=
  pe_callB (p := p1) (pos := pos) (X := X) call_isX hg hm T1.b_isinst (pa_cons ha (pa_cons (pe_bltn (v := .ty n) (pos := p2) hg2 hm2 hb rfl hn hd) pa_nil) hs) (by decide) (by decide) hs hpl
end L2
namespace T1
open PySem L2
structure TxtE (mg : Str → Option Value) (c1 c2 c3 c4 c5 c6 c7 c8 : Addr) : Prop where
  e1 : mg "NoDoor" = some (.ref c1)
  e2 : mg "NoPlace" = some (.ref c2)
  e3 : mg "NoRow" = some (.ref c3)
  e4 : mg "NoText" = some (.ref c4)
  e5 : mg "NoTongue" = some (.ref c5)
  e6 : mg "NoWay" = some (.ref c6)
  e7 : mg "Nothing" = some (.ref c7)
  e8 : mg "TooMany" = some (.ref c8)
  ve : mg "ValueError" = none
abbrev kWords : List Str := ["NoDoor", "NoPlace", "NoRow", "NoText", "NoTongue", "NoWay", "Nothing", "TooMany", "+"]
def kList (bs : List Bool) (n : Nat) : List Str := (List.range n).filterMap fun i => if bs.getD i false = true then some (kWords.getD i "") else none
def kindsOf (bs : List Bool) : Str := PySem.Builtin.Str.glued (Str.ofString "") (kList bs 9)
theorem kList_flat (bs : List Bool) : ∀ n, flatN (fun i => (if bs.getD i false = true then some (V.str (kWords.getD i "")) else none).toList) n = (kList bs n).map V.str
  | 0 => rfl
  | n + 1 => by
    show flatN _ n ++ _ = _
    rw [kList_flat bs n]
    unfold kList
    rw [List.range_succ, List.filterMap_append, List.map_append]
    congr 1
    by_cases h : bs.getD n false = true
    · show (if bs.getD n false = true then some (V.str (kWords.getD n "")) else none).toList = _
      rw [if_pos h, List.filterMap_cons, if_pos h]
      rfl
    · show (if bs.getD n false = true then some (V.str (kWords.getD n "")) else none).toList = _
      rw [if_neg h, List.filterMap_cons, if_neg h]
      rfl
theorem kList_len (bs : List Bool) (n : Nat) : (kList bs n).length ≤ n := by
  have := List.length_filterMap_le (fun i => if bs.getD i false = true then some (kWords.getD i "") else none) (List.range n)
  rw [List.length_range] at this
  exact this
theorem kList_short {bs : List Bool} {n : Nat} {y : Str} (h : y ∈ kList bs n) : y.length ≤ 100 := by
  obtain ⟨i, _, hi⟩ := List.mem_filterMap.mp h
  have all : ∀ j, (kWords.getD j "").length ≤ 100 := by
    intro j
    rcases j with _ | _ | _ | _ | _ | _ | _ | _ | _ | j
    all_goals first | decide +kernel | exact (by decide +kernel : (Str.ofString "").length ≤ 100)
  split at hi
  · cases hi
    exact all i
  · cases hi
inductive spKinds (K : PySem.W.Frag) (c1 c2 c3 c4 c5 c6 c7 c8 : Addr) : Addr → List V → Hp → VK → XK → Prop where
  | mk {ea : Addr} {vs : List V} {H : Hp} {Q : VK} {E : XK} (C : Addr) (b1 b2 b3 b4 b5 b6 b7 b8 b9 : Bool) (h1 : vs = [.ref ea]) (h2 : H ea = some (exH ea (.ref C))) (h3 : ExCls K C)
    (k1 : PySem.W.kitOne K (.ref C) (.ref c1) = some b1) (k2 : PySem.W.kitOne K (.ref C) (.ref c2) = some b2) (k3 : PySem.W.kitOne K (.ref C) (.ref c3) = some b3) (k4 : PySem.W.kitOne K (.ref C) (.ref c4) = some b4)
    (k5 : PySem.W.kitOne K (.ref C) (.ref c5) = some b5) (k6 : PySem.W.kitOne K (.ref C) (.ref c6) = some b6) (k7 : PySem.W.kitOne K (.ref C) (.ref c7) = some b7) (k8 : PySem.W.kitOne K (.ref C) (.ref c8) = some b8)
    (k9 : PySem.W.kitOne K (.ref C) (.type "ValueError") = some b9) (q : ∀ H', Same H H' → Q (.str (kindsOf [b1, b2, b3, b4, b5, b6, b7, b8, b9])) H') : spKinds K c1 c2 c3 c4 c5 c6 c7 c8 ea vs H Q E
theorem b_ve : bootBuiltins "ValueError" = some (.type "ValueError") := by decide +kernel
section
variable {P : Program} {w : World} {K : PySem.W.Frag} {mg : Str → Option Value} {base : Heap}
theorem scKinds : FnScope ["e", "some", "words"] ["e"] (defScope lKinds) := ⟨rfl, rfl, rfl, by decide +kernel, rfl, by decide +kernel, by decide +kernel⟩
theorem ndKWS : (["k", "words", "some"] : List Str).Nodup := by decide +kernel
set_option maxHeartbeats 0 in
theorem ok_kinds {f c1 c2 c3 c4 c5 c6 c7 c8 : Addr} {fd : FuncData} (F : Fun K "_law_kinds" "_law_kinds" lKinds f fd) (T : TxtB mg) (TE : TxtE mg c1 c2 c3 c4 c5 c6 c7 c8) : FnOkU P w K mg base 1 f fd ["e"] (spKinds K c1 c2 c3 c4 c5 c6 c7 c8) := by
  refine F.okU scKinds (fun ea vs H Q E h => ?_) (fun cdv A outer s H vs Q E ea hr hh h => ?_)
  · obtain ⟨C, b1, b2, b3, b4, b5, b6, b7, b8, b9, rfl, _⟩ := h
    rfl
  · obtain ⟨C, b1, b2, b3, b4, b5, b6, b7, b8, b9, rfl, hea, hx, k1, k2, k3, k4, k5, k6, k7, k8, k9, q⟩ := h
    have nd := scKinds.nd
    refine ⟨_, pss_cons (ps_set (i := 1) nd rfl (Or.inr rfl) (pe_lst (pa_cons (pe_isXo T.isinst TE.e1 (pv 0)) (pa_cons (pe_isXo T.isinst TE.e2 (pv 0)) (pa_cons (pe_isXo T.isinst TE.e3 (pv 0)) (pa_cons (pe_isXo T.isinst TE.e4 (pv 0)) pa_nil))))))
      (pss_cons (ps_set (i := 1) nd rfl (Or.inr rfl) (pe_op op_cat (pv 1) (pe_lst (pa_cons (pe_isXo T.isinst TE.e5 (pv 0)) (pa_cons (pe_isXo T.isinst TE.e6 (pv 0)) (pa_cons (pe_isXo T.isinst TE.e7 (pv 0)) (pa_cons (pe_isXo T.isinst TE.e8 (pv 0)) pa_nil)))))))
      (pss_cons (ps_expr (pe_bm PySem.F.plainAttrs_list PySem.F.slot_list_append PySem.F.type_list_append mt_append (pv 1) (pa_cons (pe_isXb T.isinst TE.ve b_ve (pv 0)) pa_nil)))
      (pss_cons (ps_set (i := 2) nd rfl (Or.inr rfl) (pe_lst (pa_cons pe_str (pa_cons pe_str (pa_cons pe_str (pa_cons pe_str (pa_cons pe_str (pa_cons pe_str (pa_cons pe_str (pa_cons pe_str (pa_cons pe_str pa_nil)))))))))))
      (pss_one (ps_ret (pe_bm PySem.F.plainAttrs_str PySem.F.slot_str_join PySem.F.type_str_join mt_join pe_str (pa_cons
        (pe_comp1U (ea := ea) (ecl := .ref C) (N' := ["k", "words", "some"]) (js := [none, some 2, some 1]) rfl hh (blk_of (defScope lKinds) (by decide +kernel)) ⟨rfl, Or.inr (Or.inl rfl), rfl, rfl, Or.inr (Or.inl rfl), rfl, trivial⟩ (pi_range1U rfl T.range (pa_cons pe_int pa_nil))
          (fun cl s H fp => pg_name (i := 0) ndKWS rfl (Or.inl rfl)) (fun cl s H fp => pts_one (pt_val (pe_ix ix_listB (pv 2) (pv 0) (fun _ _ => rfl)))) (fun cl s H fp => pe_ix ix_listB (pv 1) (pv 0) (fun _ _ => rfl))) pa_nil))))))), ?_⟩
    dsimp only [cxOfU, cxOf]
    have big : (1000 : Nat) ≤ sizeLine := by rw [sizeLine_eq]; decide
    refine seq_hide fun U hU => ?_
    refine ⟨_, rfl, ea, C, V.ref c1, _, Value.ref c1, rfl, rfl, (fun _ z => z), hea, hx, k1, _, rfl, ea, C, V.ref c2, _, Value.ref c2, rfl, rfl, (fun _ z => z), hea, hx, k2, _, rfl, ea, C, V.ref c3, _, Value.ref c3, rfl, rfl, (fun _ z => z), hea, hx, k3, _, rfl, ea, C, V.ref c4, _, Value.ref c4, rfl, rfl, (fun _ z => z), hea, hx, k4, by simp only [List.length_cons, List.length_nil]; omega, fun p np => hU _ _ (seq_hide fun U hU => ?_)⟩
    have s1 : Same H (upd H p (.lst [.bl b1, .bl b2, .bl b3, .bl b4])) := Same.new np
    have hp1 : upd H p (.lst [.bl b1, .bl b2, .bl b3, .bl b4]) p = some (.lst [.bl b1, .bl b2, .bl b3, .bl b4]) := upd_same
    have he1 := s1 _ _ hea
    generalize upd H p (.lst [.bl b1, .bl b2, .bl b3, .bl b4]) = H1 at *
    refine ⟨_, rfl, _, rfl, ea, C, V.ref c5, _, Value.ref c5, rfl, rfl, (fun _ z => z), he1, hx, k5, _, rfl, ea, C, V.ref c6, _, Value.ref c6, rfl, rfl, (fun _ z => z), he1, hx, k6, _, rfl, ea, C, V.ref c7, _, Value.ref c7, rfl, rfl, (fun _ z => z), he1, hx, k7, _, rfl, ea, C, V.ref c8, _, Value.ref c8, rfl, rfl, (fun _ z => z), he1, hx, k8, by simp only [List.length_cons, List.length_nil]; omega, fun p2 np2 => ?_⟩
    have s2 : Same H1 (upd H1 p2 (.lst [.bl b5, .bl b6, .bl b7, .bl b8])) := Same.new np2
    have hp12 := s2 _ _ hp1
    have hp22 : upd H1 p2 (.lst [.bl b5, .bl b6, .bl b7, .bl b8]) p2 = some (.lst [.bl b5, .bl b6, .bl b7, .bl b8]) := upd_same
    have he2 := s2 _ _ he1
    have t2 := s1.trans s2
    generalize upd H1 p2 (.lst [.bl b5, .bl b6, .bl b7, .bl b8]) = H2 at *
    refine ⟨p, p2, _, _, rfl, rfl, hp12, hp22, by simp only [List.length_cons, List.length_nil]; omega, fun p3 np3 => hU _ _ (seq_hide fun U hU => ?_)⟩
    have s3 : Same H2 (upd H2 p3 (.lst ([.bl b1, .bl b2, .bl b3, .bl b4] ++ [.bl b5, .bl b6, .bl b7, .bl b8]))) := Same.new np3
    have hp3 : upd H2 p3 (.lst ([.bl b1, .bl b2, .bl b3, .bl b4] ++ [.bl b5, .bl b6, .bl b7, .bl b8])) p3 = some (.lst ([.bl b1, .bl b2, .bl b3, .bl b4] ++ [.bl b5, .bl b6, .bl b7, .bl b8])) := upd_same
    have he3 := s3 _ _ he2
    have t3 := t2.trans s3
    have n3 : H p3 = none := by
      cases c : H p3 with
      | none => rfl
      | some o => rw [t2 _ _ c] at np3; cases np3
    generalize upd H2 p3 (.lst ([.bl b1, .bl b2, .bl b3, .bl b4] ++ [.bl b5, .bl b6, .bl b7, .bl b8])) = H3 at *
    refine ⟨_, rfl, .inl ⟨rfl, _, SqL.of hp3⟩, _, rfl, ea, C, V.ty "ValueError", _, Value.type "ValueError", rfl, rfl, (fun _ z => z), he3, hx, k9, p3, _, _, rfl, rfl, hp3, by simp only [List.length_cons, List.length_nil, List.length_append]; omega, hU _ _ (seq_hide fun U hU => ?_)⟩
    have t4 : Same H (upd H3 p3 (.lst ([.bl b1, .bl b2, .bl b3, .bl b4] ++ [.bl b5, .bl b6, .bl b7, .bl b8] ++ [.bl b9]))) := SameX.of_new n3 (SameX.upd t3.x)
    have hp4 : upd H3 p3 (.lst ([.bl b1, .bl b2, .bl b3, .bl b4] ++ [.bl b5, .bl b6, .bl b7, .bl b8] ++ [.bl b9])) p3 = some (.lst ([.bl b1, .bl b2, .bl b3, .bl b4] ++ [.bl b5, .bl b6, .bl b7, .bl b8] ++ [.bl b9])) := upd_same
    have he4 := t4 _ _ hea
    generalize upd H3 p3 (.lst ([.bl b1, .bl b2, .bl b3, .bl b4] ++ [.bl b5, .bl b6, .bl b7, .bl b8] ++ [.bl b9])) = H4 at *
    refine ⟨by simp only [List.length_cons, List.length_nil]; omega, fun p4 np4 => hU _ _ ?_⟩
    have s5 : Same H4 (upd H4 p4 (.lst (kWords.map V.str))) := Same.new np4
    have t5 := t4.trans s5
    have he5 := s5 _ _ he4
    have hp35 := s5 _ _ hp4
    have hp45 : upd H4 p4 (.lst (kWords.map V.str)) p4 = some (.lst (kWords.map V.str)) := upd_same
    have hg : upd H4 p4 (.lst (kWords.map V.str)) = upd H4 p4 (.lst [.str "NoDoor", .str "NoPlace", .str "NoRow", .str "NoText", .str "NoTongue", .str "NoWay", .str "Nothing", .str "TooMany", .str "+"]) := rfl
    rw [← hg]
    clear hg
    generalize upd H4 p4 (.lst (kWords.map V.str)) = H5 at *
    refine ⟨rfl, 9, rfl, by decide, by decide, fun pD npD => ?_⟩
    have hne : ea ≠ pD := ne_of_none he5 npD
    refine loop_new (fun i => if ([b1, b2, b3, b4, b5, b6, b7, b8, b9] : List Bool).getD i false = true then some (V.str (kWords.getD i "")) else none) (fun σ => ∃ u, σ = [u, some (.ref p4), some (.ref p3)]) ⟨none, rfl⟩ npD (by decide) (itok_rngU (by rw [upd_ne hne]; exact he5) hne) (fun j σ H6 C hj ⟨u, hu⟩ s6 hC => ?_) (fun σ H6 s6 hC6 => ?_)
    · subst hu
      have hj : j < 9 := hj
      have e0 : (0 : Int) + (j : Int) = (j : Int) := by omega
      have a1 : atI ([.bl b1, .bl b2, .bl b3, .bl b4] ++ [.bl b5, .bl b6, .bl b7, .bl b8] ++ [.bl b9]) (j : Int) = some (V.bl (([b1, b2, b3, b4, b5, b6, b7, b8, b9] : List Bool).getD j false)) := by
        refine atI_nat ?_
        rcases j with _ | _ | _ | _ | _ | _ | _ | _ | _ | j
        all_goals first | rfl | omega
      have a2 : atI (kWords.map V.str) (j : Int) = some (V.str (kWords.getD j "")) := by
        refine atI_nat ?_
        rcases j with _ | _ | _ | _ | _ | _ | _ | _ | _ | j
        all_goals first | rfl | omega
      dsimp only [gName]
      rw [e0]
      refine ⟨_, rfl, _, rfl, p3, _, _, _, rfl, rfl, SqL.of (s6 _ _ hp35), a1, _, rfl, ?_⟩
      refine ite2 (fun g => ?_) (fun g => ?_)
      · rw [if_pos g] at hC
        exact ⟨_, rfl, _, rfl, p4, _, _, _, rfl, rfl, SqL.of (s6 _ _ hp45), a2, hC _ _ ⟨_, rfl⟩ (Same.refl _)⟩
      · rw [if_neg g] at hC
        exact hC _ _ ⟨_, rfl⟩ (Same.refl _)
    · rw [kList_flat] at hC6
      exact ⟨_, pD, _, rfl, rfl, SqL.of hC6, Nat.le_trans (kList_len _ _) (by decide), by decide +kernel, fun y hy => kList_short hy, q _ (t5.trans s6)⟩
end
end T1
namespace T1
open PySem L2
structure TxtN (mg : Str → Option Value) (cN c1 c2 c3 c4 c5 c6 c7 c8 : Addr) : Prop extends TxtE mg c1 c2 c3 c4 c5 c6 c7 c8 where
  e0 : mg "NestError" = some (.ref cN)
theorem kinds_go {K : PySem.W.Frag} {cN c1 c2 c3 c4 c5 c6 c7 c8 C ea : Addr} {b1 b2 b3 b4 b5 b6 b7 b8 : Bool} {H : Hp} {Q : VK} {E : XK} (X : ErrC K cN [c1, c2, c3, c4, c5, c6, c7, c8] C [b1, b2, b3, b4, b5, b6, b7, b8]) (h2 : H ea = some (exH ea (.ref C)))
    (q : ∀ H', Same H H' → Q (.str (kindsOf [b1, b2, b3, b4, b5, b6, b7, b8, true])) H') : spKinds K c1 c2 c3 c4 c5 c6 c7 c8 ea [.ref ea] H Q E := by
  have ks := X.ks
  simp only [List.map_cons, List.map_nil, List.cons.injEq, and_true] at ks
  obtain ⟨k1, k2, k3, k4, k5, k6, k7, k8⟩ := ks
  exact ⟨C, _, _, _, _, _, _, _, _, _, rfl, h2, X.xc, k1, k2, k3, k4, k5, k6, k7, k8, X.kv, q⟩
theorem kW : kindsOf [false, false, false, false, false, true, false, false, true] = Str.ofString "NoWay+" := by decide +kernel
end T1
namespace T1
open PySem L2
theorem putW_endF (esc : Str) (ms : List Str) (close : Str) : ∀ l : List Nat, ∃ u, (putW esc ms close l).cps.toList = u ++ close.cps.toList
  | [] => ⟨[], rfl⟩
  | c :: r => by
    obtain ⟨u, hu⟩ := putW_endF esc ms close r
    cases hn : needC esc ms (putW esc ms close r) c with
    | true => exact ⟨esc.cps.toList ++ c :: u, by
      show (if _ then _ else _ : Str).cps.toList = _
      rw [if_pos hn, app_list, app_list, one_list, hu]; simp⟩
    | false => exact ⟨c :: u, by
      show (if _ then _ else _ : Str).cps.toList = _
      rw [if_neg (by rw [hn]; exact Bool.false_ne_true), app_list, one_list, hu]; simp⟩
theorem cut_close {esc close : Str} {ms : List Str} {x : Str} (ho : esc.length = 1 ∨ needE esc ms close x.cps.toList = false) :
    ((cutS (putW esc ms close x.cps.toList) none (some (((putW esc ms close x.cps.toList).length : Int) - (close.length : Int)))) ++ close).cps.toList = (putW esc ms close x.cps.toList).cps.toList ∧
    (cutS (putW esc ms close x.cps.toList) none (some (((putW esc ms close x.cps.toList).length : Int) - (close.length : Int)))).length = x.length + costG esc ms close x.cps.toList := by
  have hl := cost_len x.cps.toList ho
  have hc := putW_closeP esc ms close x.cps.toList
  rw [len_list x] at hl
  obtain ⟨t, ht⟩ := putW_endF esc ms close x.cps.toList
  generalize putW esc ms close x.cps.toList = W at *
  have eW : ((W.length : Int) - (close.length : Int)) = ((W.length - close.length : Nat) : Int) := by omega
  rw [eW]
  have e1 := cut_to4 W (k := W.length - close.length) (by omega)
  have hWl : W.cps.toList.length = W.length := len_list W
  have hcl : close.cps.toList.length = close.length := len_list close
  constructor
  · rw [app_list, e1, ht]
    have : W.length - close.length = t.length := by rw [← hWl, ht, List.length_append, hcl]; omega
    rw [this, List.take_left]
  · rw [← len_list, e1, List.length_take]
    omega
inductive spFew (CW : Addr) : List V → Hp → VK → XK → Prop where
  | mk {vs : List V} {H : Hp} {Q : VK} {E : XK} (z v b x : _) (t i : Int) (esc close : Str) (inner : Int) (c1 : vs = [v, .int t, .int i, .str x]) (c2 : Bag z H) (c3 : Rep z H v (bkD b)) (c4 : BkOk b) (c5 : isDr b t i = true) (c6 : x.length ≤ 20000)
    (d1 : inner = (drAt b t i).2.1) (d2 : close = (drAt b t i).2.2) (d3 : esc = (b.getD inner.toNat tg0).1)
    (q : (esc.length = 1 ∨ needE esc (inMarks b inner close) close x.cps.toList = false) → ∀ H', Same H H' → Q (.int (costG esc (inMarks b inner close) close x.cps.toList : Nat)) H')
    (e : esc = Str.ofString "" → needE esc (inMarks b inner close) close x.cps.toList = true → ∀ H', Same H H' → E (.ref CW) none H') : spFew CW vs H Q E
inductive spTried14 : List V → Hp → VK → XK → Prop where
  | mk {vs : List V} {H : Hp} {Q : VK} {E : XK} (z v b x : _) (y : Int) (pp : Addr) (t i : Nat) (D : Dr) (esc : Str) (c1 : vs = [.int y, v, .ref pp, .str x]) (c0 : y = 0 ∨ y = 1) (c2 : Bag z H) (c3 : Rep z H v (bkD b)) (c4 : BkOk b) (c5 : H pp = some (.tup [.int (t : Int), .int (i : Int)])) (c6 : t < b.length) (c7 : i < (b.getD t tg0).2.length) (d1 : D = (b.getD t tg0).2.getD i dr0) (d3 : esc = (b.getD D.2.1.toNat tg0).1) (c8 : x.length ≤ 20000)
    (q : (esc.length = 1 ∨ needE esc (inMarks b D.2.1 D.2.2) D.2.2 x.cps.toList = false) → ∀ p H', Same H H' → H p = none → H' p = some (.lst [.str "", if y = 0 then .str (cutS (putW esc (inMarks b D.2.1 D.2.2) D.2.2 x.cps.toList) none (some (((putW esc (inMarks b D.2.1 D.2.2) D.2.2 x.cps.toList).length : Int) - (D.2.2.length : Int)))) else .int (costG esc (inMarks b D.2.1 D.2.2) D.2.2 x.cps.toList : Nat)]) → Q (.ref p) H')
    (e : esc = Str.ofString "" → needE esc (inMarks b D.2.1 D.2.2) D.2.2 x.cps.toList = true → ∀ p H', Same H H' → H p = none → H' p = some (.lst [.str "NoWay+", .non]) → Q (.ref p) H') : spTried14 vs H Q E
section
variable {P : Program} {w : World} {K : PySem.W.Frag} {mg : Str → Option Value} {base : Heap}
theorem scFew14 : FnScope ["book", "tongue", "number", "text"] ["book", "tongue", "number", "text"] (defScope sFewestEscapes) := ⟨rfl, rfl, rfl, by decide +kernel, rfl, by decide +kernel, by decide +kernel⟩
theorem len_esc {esc : Str} (h : esc.length = 0 ∨ esc.length = 1) {A : Prop} (g : esc ≠ Str.ofString "" ∨ A) : esc.length = 1 ∨ A := g.imp (fun g => h.resolve_left fun q => g (str_ext (by rw [List.length_eq_zero_iff.mp ((len_list esc).trans q)]; rfl))) id
theorem ok_few {f f1 CW : Addr} {fd fd1 : FuncData} (F : Fun K "fewest_escapes" "fewest_escapes" sFewestEscapes f fd) (T : TxtB mg)
    (k1 : PySem.W.keepIn K (.ref f1) = true) (b1 : Binds K fd1 ["book", "tongue", "number", "text"] []) (m1 : mg "put_in" = some (.ref f1)) (G1 : FnOk P w K mg base (CXE P w) 3 f1 fd1 ["book", "tongue", "number", "text"] (spPut CW)) : FnOk P w K mg base (CXE P w) 4 f fd ["book", "tongue", "number", "text"] (spFew CW) := by
  refine F.okX scFew14 (fun vs H Q E h => ?_) (fun cdv A outer s H vs Q E hr h => ?_)
  · obtain ⟨z, v, b, x, t, i, esc, close, inner, rfl, _⟩ := h
    rfl
  · obtain ⟨z, v, b, x, t, i, esc, close, inner, rfl, hB, R0, hok, hdr, hxl, d1, d2, d3, q, e⟩ := h
    refine ⟨_, pss_one (ps_ret (pe_op op_sub (pe_callB call_len_str (by rfl) T.len b_len (pa_cons (pe_call G1 hr rfl m1 k1 b1 .nil pass_fn (pa_cons (pv 0) (pa_cons (pv 1) (pa_cons (pv 2) (pa_cons (pv 3) pa_nil))))) pa_nil)) (pe_callB call_len_str (by rfl) T.len b_len (pa_cons (pv 3) pa_nil)))), ?_⟩
    have big2 : (100000 : Nat) ≤ sizeLine := by rw [sizeLine_eq]; decide
    have hdr' := hdr
    unfold isDr inN at hdr'
    simp only [Bool.and_eq_true, decide_eq_true_eq] at hdr'
    obtain ⟨⟨g0, g1⟩, g2, g3⟩ := hdr'
    have g4 : t.toNat < b.length := by omega
    have g5 : i.toNat < (tgAt b t).2.length := by omega
    have hdok : DrOk b.length (drAt b t i) := (hok.2.2.1 _ (getD_mem tg0 g4)).2.2 _ (getD_mem dr0 g5)
    obtain ⟨_, ⟨hi0, hi1⟩, hcm⟩ := hdok
    rw [← d1] at hi0 hi1
    rw [← d2] at hcm
    have hcl := markS_len hcm
    have hel : esc.length = 0 ∨ esc.length = 1 := by
      have := esc_le1 (hok.2.2.1 _ (getD_mem tg0 (show inner.toNat < b.length by omega))).1
      rw [← d3] at this
      omega
    have hWl := putW_len esc (inMarks b inner close) close (by omega) x.cps.toList
    rw [len_list x] at hWl
    refine ⟨_, rfl, _, rfl, _, rfl, _, rfl, z, v, b, x, t, i, esc, close, inner, rfl, hB, R0, hok, hdr, hxl, d1, d2, d3, fun h H' s' => ?_, e⟩
    have h := len_esc hel h
    obtain ⟨c1, c2⟩ := cut_close (x := x) (ms := inMarks b inner close) (close := close) h
    have hl := cost_len x.cps.toList h
    rw [len_list x] at hl
    refine ⟨_, rfl, by omega, _, rfl, x, rfl, by omega, _, _, rfl, rfl, ?_⟩
    rw [c2]
    have e1 : ((x.length + costG esc (inMarks b inner close) close x.cps.toList : Nat) : Int) - (x.length : Int) = (costG esc (inMarks b inner close) close x.cps.toList : Nat) := by omega
    show Q (.int _) H'
    rw [e1]
    exact q h H' s'
theorem scTried14 : FnScope ["way", "book", "place", "text", "kind", "told", "e"] ["way", "book", "place", "text"] (defScope lTried) := ⟨rfl, rfl, rfl, by decide +kernel, rfl, by decide +kernel, by decide +kernel⟩
set_option maxHeartbeats 0 in
theorem ok_tried14 {f cN c1 c2 c3 c4 c5 c6 c7 c8 f1 f2 f5 : Addr} {fd fd1 fd2 fd5 : FuncData} (F : Fun K "_law_tried" "_law_tried" lTried f fd) (TN : TxtN mg cN c1 c2 c3 c4 c5 c6 c7 c8)
    (X6 : ErrC K cN [c1, c2, c3, c4, c5, c6, c7, c8] c6 [false, false, false, false, false, true, false, false])
    (k1 : PySem.W.keepIn K (.ref f1) = true) (b1 : Binds K fd1 ["book", "tongue", "number", "text"] []) (m1 : mg "put_in" = some (.ref f1)) (G1 : FnOk P w K mg base (CXE P w) 3 f1 fd1 ["book", "tongue", "number", "text"] (spPut c6))
    (k2 : PySem.W.keepIn K (.ref f2) = true) (b2 : Binds K fd2 ["book", "tongue", "number", "text"] []) (m2 : mg "fewest_escapes" = some (.ref f2)) (G2 : FnOk P w K mg base (CXE P w) 4 f2 fd2 ["book", "tongue", "number", "text"] (spFew c6))
    (k5 : PySem.W.keepIn K (.ref f5) = true) (b5 : Binds K fd5 ["e"] []) (m5 : mg "_law_kinds" = some (.ref f5)) (G5 : FnOkU P w K mg base 1 f5 fd5 ["e"] (spKinds K c1 c2 c3 c4 c5 c6 c7 c8)) : FnOk P w K mg base CX0 5 f fd ["way", "book", "place", "text"] spTried14 := by
  refine F.ok scTried14 (fun vs H Q E h => ?_) (fun cdv A outer s H vs Q E hr h => ?_)
  · obtain ⟨z, v, b, x, y, pp, t, i, D, esc, rfl, _⟩ := h
    rfl
  · obtain ⟨z, v, b, x, y, pp, t, i, D, esc, rfl, hy, hB, R0, hok, hpp, ht, hi, d1, d3, hxl, q, e⟩ := h
    have nd := scTried14.nd
    have hr3 : Room 3 _ := hr.mono (by decide)
    have hrU : RoomU 1 _ := (hr.mono (by decide : 1 ≤ 4)).soft
    refine ⟨_, pss_cons (ps_set (i := 4) nd rfl (Or.inl rfl) pe_str)
      (pss_cons (ps_set (i := 5) nd rfl (Or.inl rfl) pe_non)
      (pss_cons (ps_tryAs (i := 6) nd rfl rfl rfl rfl rfl TN.e0
        (pxs_one (px_if (pt_cmpR op_eq (pv 0) pe_int (nomark _)) (pxs_one (px_set (i := 5) nd rfl (Or.inl rfl) (pex_call G1 hr3 rfl m1 k1 b1 .nil (pa_cons (pv 1) (pa_cons (pe_ix ix_tup (pv 2) pe_int (fun _ _ => rfl)) (pa_cons (pe_ix ix_tup (pv 2) pe_int (fun _ _ => rfl)) (pa_cons (pv 3) pa_nil)))))))
        (pxs_one (px_set (i := 5) nd rfl (Or.inl rfl) (pex_call G2 hr rfl m2 k2 b2 .nil (pa_cons (pv 1) (pa_cons (pe_ix ix_tup (pv 2) pe_int (fun _ _ => rfl)) (pa_cons (pe_ix ix_tup (pv 2) pe_int (fun _ _ => rfl)) (pa_cons (pv 3) pa_nil)))))))))
        (fun a => pss_one (ps_set (i := 4) nd rfl (Or.inl rfl) (pe_callU G5 ⟨hrU.dp, hrU.un⟩ rfl rfl m5 k5 b5 .nil (pa_cons (pv 6) pa_nil)))))
      (pss_one (ps_ret (pe_lst (pa_cons (pv 4) (pa_cons (pv 5) pa_nil))))))), ?_⟩
    dsimp only [cxOf, Cx.nox, Cx.wish]
    have big2 : (100000 : Nat) ≤ sizeLine := by rw [sizeLine_eq]; decide
    have hdr : isDr b t i = true := by
      unfold isDr inN
      have e1 : tgAt b t = b.getD t tg0 := rfl
      rw [e1, decide_eq_true (by omega), decide_eq_true (by omega), decide_eq_true (by omega), decide_eq_true (by omega)]
      rfl
    have eD : D = drAt b t i := d1
    have hel : esc.length = 0 ∨ esc.length = 1 := by
      have h1 := (hok.2.2.1 _ (getD_mem tg0 ht)).2.2 _ (getD_mem dr0 hi)
      rw [← d1] at h1
      have h2 := h1.2.1
      have := esc_le1 (hok.2.2.1 _ (getD_mem tg0 (show D.2.1.toNat < b.length by omega))).1
      rw [← d3] at this
      omega
    rcases hy with rfl | rfl
    · refine ⟨_, rfl, rfl, _, rfl, iteT ?_⟩
      refine ⟨_, rfl, _, rfl, pp, _, 0, _, rfl, rfl, SqT.of hpp, atI_nat (j := 0) rfl, _, rfl, pp, _, 1, _, rfl, rfl, SqT.of hpp, atI_nat (j := 1) rfl, _, rfl, z, v, b, x, t, i, esc, D.2.2, D.2.1, rfl, hB, R0, hok, hdr, hxl, by rw [eD], by rw [eD], d3, fun h H' s' => ?_, fun h1 h2 H' s' => ⟨X6.m, fun a na => ⟨_, rfl, ?_⟩⟩⟩
      · refine ⟨_, rfl, _, rfl, by show (2 : Nat) ≤ _; omega, fun p np => q (len_esc hel h) p _ (s'.trans (Same.new np)) (s'.free np) ?_⟩
        rw [upd_same, if_pos rfl]
      · refine kinds_go X6 upd_same fun H2 s2 => ⟨_, rfl, _, rfl, by show (2 : Nat) ≤ _; omega, fun p np => ?_⟩
        rw [kW]
        have s3 := (s'.trans (Same.new na)).trans s2
        exact e h1 h2 p _ (s3.trans (Same.new np)) (s3.free np) upd_same
    · refine ⟨_, rfl, rfl, _, rfl, iteF ?_⟩
      refine ⟨_, rfl, _, rfl, pp, _, 0, _, rfl, rfl, SqT.of hpp, atI_nat (j := 0) rfl, _, rfl, pp, _, 1, _, rfl, rfl, SqT.of hpp, atI_nat (j := 1) rfl, _, rfl, z, v, b, x, t, i, esc, D.2.2, D.2.1, rfl, hB, R0, hok, hdr, hxl, by rw [eD], by rw [eD], d3, fun h H' s' => ?_, fun h1 h2 H' s' => ⟨X6.m, fun a na => ⟨_, rfl, ?_⟩⟩⟩
      · refine ⟨_, rfl, _, rfl, by show (2 : Nat) ≤ _; omega, fun p np => q h p _ (s'.trans (Same.new np)) (s'.free np) ?_⟩
        rw [upd_same, if_neg (by decide)]
      · refine kinds_go X6 upd_same fun H2 s2 => ⟨_, rfl, _, rfl, by show (2 : Nat) ≤ _; omega, fun p np => ?_⟩
        rw [kW]
        have s3 := (s'.trans (Same.new na)).trans s2
        exact e h1 h2 p _ (s3.trans (Same.new np)) (s3.free np) upd_same
end
end T1
namespace T1
open PySem L2
theorem glued_len {m : Nat} : ∀ {xs : List Str}, (∀ y ∈ xs, y.length ≤ m) → (PySem.Builtin.Str.glued (Str.ofString "") xs).length ≤ xs.length * m := by
  have e0 : (Str.ofString "").cps = #[] := by decide +kernel
  have h : ∀ (l : List Str) (acc : Array Nat), (∀ y ∈ l, y.length ≤ m) → (l.foldl (fun acc p => acc ++ (Str.ofString "").cps ++ p.cps) acc).size ≤ acc.size + l.length * m := by
    intro l
    induction l with
    | nil => intro acc _; simp
    | cons c r ih =>
      intro acc hl
      rw [List.foldl_cons]
      have h1 := ih (acc ++ (Str.ofString "").cps ++ c.cps) fun y hy => hl y (List.mem_cons_of_mem _ hy)
      have h2 := hl c List.mem_cons_self
      have h3 : (acc ++ (Str.ofString "").cps ++ c.cps).size = acc.size + c.length := by rw [e0]; simp; rfl
      rw [h3] at h1
      rw [List.length_cons, Nat.add_mul]
      omega
  intro xs hx
  unfold PySem.Builtin.Str.glued
  cases xs with
  | nil => exact Nat.zero_le _
  | cons c r =>
    have h1 := h r c.cps fun y hy => hx y (List.mem_cons_of_mem _ hy)
    have h2 := hx c List.mem_cons_self
    rw [List.length_cons, Nat.add_mul]
    have h3 : c.cps.size = c.length := rfl
    rw [h3] at h1
    exact Nat.le_trans h1 (by omega)
theorem sq_same {K : PySem.W.Frag} {H H' : Hp} {a : Addr} {xs : List V} (e : Same H H') (h : SqL K H a xs) : SqL K H' a xs := by
  rcases h with (h | ⟨o, h⟩) | h
  · exact .inl (.inl (e _ _ h))
  · exact .inl (.inr ⟨o, e _ _ h⟩)
  · exact .inr h
theorem two_new {J : It} {g : TG} {te : TE} {Qe : St → Hp → Prop} {σ0 : St} {H0 : Hp} {p : Addr} {item : Nat → V} (cont : Nat → List V) (Pσ : St → Prop) (hσ : Pσ σ0) (hp : H0 p = none) (ok : ItOk J 2 item (upd H0 p (.lst [])) p)
    (turn : ∀ j σ H (C : V → St → Hp → Prop), j < 2 → Pσ σ → Same H0 H → (∀ σ2 r H', Pσ σ2 → Same H H' → H r = none → H' r = some (.lst (cont j)) → C (.ref r) σ2 H') → g (item j) σ H fun σ2 H2 => te σ2 H2 fun v H4 => C v σ2 H4)
    (hQ : ∀ σ H r0 r1, Same H0 H → H0 r0 = none → H0 r1 = none → H p = some (.lst [.ref r0, .ref r1]) → H r0 = some (.lst (cont 0)) → H r1 = some (.lst (cont 1)) → Qe σ H) : tLoop J g tYes (tApp p te) Qe σ0 (upd H0 p (.lst [])) := by
  have s0 : Same H0 (upd H0 p (.lst [])) := Same.new hp
  have up : ∀ {H}, SameX p (upd H0 p (.lst [])) H → Same H0 H := fun {H} h b o e => h b o (ne_of_none e hp) (s0 b o e)
  refine loop_by (n := 2) (item := item) (fun j σ H => Pσ σ ∧ SameX p (upd H0 p (.lst [])) H ∧ ∃ rs : Nat → Addr, H p = some (.lst ((List.range j).map fun l => V.ref (rs l))) ∧ ∀ l, l < j → H (rs l) = some (.lst (cont l)) ∧ rs l ≠ p ∧ H0 (rs l) = none) ⟨hσ, .refl, fun _ => p, upd_same, fun l h => absurd h (Nat.not_lt_zero _)⟩
    (fun i σ H hi q => ok.go i H hi q.2.1) (fun σ H q => ok.stop H q.2.1) (fun i σ H x H' hi q y => ok.yld i H x H' hi q.2.1 y) (fun j σ H hj ⟨hP, hS, rs, hpl, hrs⟩ => ?_) (fun σ H ⟨hP, hS, rs, hpl, hrs⟩ => ?_)
  · refine turn j σ H (fun v σ2 H4 => ∃ ys, H4 p = some (.lst ys) ∧ ys.length < sizeLine ∧ Pσ σ2 ∧ SameX p (upd H0 p (.lst [])) (upd H4 p (.lst (ys ++ [v]))) ∧ ∃ rs : Nat → Addr, upd H4 p (.lst (ys ++ [v])) p = some (.lst ((List.range (j + 1)).map fun l => V.ref (rs l))) ∧ ∀ l, l < j + 1 → upd H4 p (.lst (ys ++ [v])) (rs l) = some (.lst (cont l)) ∧ rs l ≠ p ∧ H0 (rs l) = none) hj hP (up hS) fun σ2 r H' hP2 s2 nr hr => ?_
    have hrp : r ≠ p := fun e => by rw [e, hpl] at nr; cases nr
    have nr0 : H0 r = none := by
      cases e : H0 r with
      | none => rfl
      | some o => rw [up hS _ _ e] at nr; cases nr
    refine ⟨_, s2 _ _ hpl, by rw [List.length_map, List.length_range, sizeLine_eq]; omega, hP2, fun b o hb e => by rw [upd_ne hb]; exact s2 _ _ (hS b o hb e), fun l => if l = j then r else rs l, ?_, fun l hl => ?_⟩
    · rw [upd_same, List.range_succ, List.map_append, List.map_cons, List.map_nil]
      dsimp only
      rw [if_pos rfl]
      congr 3
      refine List.map_congr_left fun l hl => ?_
      rw [if_neg (by have := List.mem_range.mp hl; omega)]
    · show upd H' p _ (if l = j then r else rs l) = _ ∧ (if l = j then r else rs l) ≠ p ∧ H0 (if l = j then r else rs l) = none
      by_cases e : l = j
      · rw [if_pos e, upd_ne hrp, e]
        exact ⟨hr, hrp, nr0⟩
      · rw [if_neg e]
        obtain ⟨h1, h2, h3⟩ := hrs l (by omega)
        rw [upd_ne h2]
        exact ⟨s2 _ _ h1, h2, h3⟩
  · obtain ⟨a1, a2, a3⟩ := hrs 0 (by decide)
    obtain ⟨b1, b2, b3⟩ := hrs 1 (by decide)
    exact hQ σ H (rs 0) (rs 1) (up hS) a3 b3 hpl a1 b1
theorem iteT' {c A B : Prop} [Decidable c] (h : c) (g : A) : if c then A else B := by rw [if_pos h]; exact g
inductive spLaw14 (K : PySem.W.Frag) : List V → Hp → VK → XK → Prop where
  | mk {vs : List V} {H : Hp} {Q : VK} {E : XK} (a : _) (ns : List Int) (c1 : vs = [.ref a]) (c2 : SqL K H a (ns.map V.int)) (q : ∀ H', Q (.bl true) H') : spLaw14 K vs H Q E
section
variable {P : Program} {w : World} {K : PySem.W.Frag} {mg : Str → Option Value} {base : Heap}
theorem scLaw14 : FnScope ["script", "k", "bag", "book", "place", "door", "great", "text", "due", "found"] ["script"] (defScope lLaw) := ⟨rfl, rfl, rfl, by decide +kernel, rfl, by decide +kernel, by decide +kernel⟩
theorem ndTBD : (["turn", "bag", "book", "door"] : List Str).Nodup := by decide +kernel
theorem ndWBP : (["way", "book", "place", "text"] : List Str).Nodup := by decide +kernel
set_option maxHeartbeats 0 in
theorem ok_law14 {f f1 f2 f3 f4 f5 f6 f7 f8 : Addr} {fd fd1 fd2 fd3 fd4 fd5 fd6 fd7 fd8 : FuncData} (F : Fun K "law" "law" lLaw f fd) (T : TxtB mg) (T2 : Txt2 mg)
    (k1 : PySem.W.keepIn K (.ref f1) = true) (b1 : Binds K fd1 ["script", "k"] []) (m1 : mg "_law_bag" = some (.ref f1)) (G1 : FnOk P w K mg base CX0 1 f1 fd1 ["script", "k"] (spBag K))
    (k2 : PySem.W.keepIn K (.ref f2) = true) (b2 : Binds K fd2 ["bag"] []) (m2 : mg "_law_book" = some (.ref f2)) (G2 : FnOk P w K mg base CX0 3 f2 fd2 ["bag"] spBook)
    (k3 : PySem.W.keepIn K (.ref f3) = true) (b3 : Binds K fd3 ["bag", "book"] []) (m3 : mg "_law_door" = some (.ref f3)) (G3 : FnOk P w K mg base CX0 2 f3 fd3 ["bag", "book"] spDoor)
    (k4 : PySem.W.keepIn K (.ref f4) = true) (b4 : Binds K fd4 ["bag", "many"] []) (m4 : mg "_law_take" = some (.ref f4)) (G4 : FnOk P w K mg base CX0 1 f4 fd4 ["bag", "many"] spTake)
    (k5 : PySem.W.keepIn K (.ref f5) = true) (b5 : Binds K fd5 ["bag", "book", "door"] []) (m5 : mg "_law_own_text" = some (.ref f5)) (G5 : FnOk P w K mg base CX0 3 f5 fd5 ["bag", "book", "door"] spOwnT)
    (k6 : PySem.W.keepIn K (.ref f6) = true) (b6 : Binds K fd6 ["book", "door", "text"] []) (m6 : mg "_law_fewest" = some (.ref f6)) (G6 : FnOk P w K mg base CX0 2 f6 fd6 ["book", "door", "text"] spFewest)
    (k7 : PySem.W.keepIn K (.ref f7) = true) (b7 : Binds K fd7 ["way", "book", "place", "text"] []) (m7 : mg "_law_tried" = some (.ref f7)) (G7 : FnOk P w K mg base CX0 5 f7 fd7 ["way", "book", "place", "text"] spTried14)
    (k8 : PySem.W.keepIn K (.ref f8) = true) (b8 : Binds K fd8 ["book", "door", "written", "text"] []) (m8 : mg "_law_unput" = some (.ref f8)) (G8 : FnOk P w K mg base CX0 2 f8 fd8 ["book", "door", "written", "text"] spUnput) : FnOk P w K mg base CX0 6 f fd ["script"] (spLaw14 K) := by
  refine F.ok scLaw14 (fun vs H Q E h => ?_) (fun cdv A outer s H vs Q E hr h => ?_)
  · obtain ⟨a, ns, rfl, _⟩ := h
    rfl
  · obtain ⟨a, ns, rfl, hS, k⟩ := h
    have nd := scLaw14.nd
    have hr1 : Room 1 _ := hr.mono (by decide)
    have hr2 : Room 2 _ := hr.mono (by decide)
    have hr3 : Room 3 _ := hr.mono (by decide)
    refine ⟨_, pss_cons (ps_for PassesOwn.never rfl (pi_range1 rfl T.range (pa_B (pe_op op_add (pe_callB (call_min2 rfl) (by rfl) T2.min b_min (pa_cons (pe_callB call_len_seq (by rfl) T.len b_len (pa_cons (pv 0) pa_nil)) (pa_K pe_int pa_nil))) pe_int) pa_nil)) (pg_name (i := 1) nd rfl (Or.inl rfl))
        (pss_cons (ps_set (i := 2) nd rfl (Or.inr rfl) (pe_call G1 hr1 rfl m1 k1 b1 .nil pass0 (pa_cons (pv 0) (pa_cons (pv 1) pa_nil))))
        (pss_cons (ps_set (i := 3) nd rfl (Or.inr rfl) (pe_call G2 hr3 rfl m2 k2 b2 .nil pass0 (pa_cons (pv 2) pa_nil)))
        (pss_cons (ps_set (i := 4) nd rfl (Or.inr rfl) (pe_call G3 hr2 rfl m3 k3 b3 .nil pass0 (pa_cons (pv 2) (pa_cons (pv 3) pa_nil))))
        (pss_one (ps_if (pt_cmp (pc_notN (pv 4)))
          (pss_cons (ps_set (i := 5) nd rfl (Or.inr rfl) (pe_ix ix_tup (pe_ix ix_tup (pe_ix ix_tup (pv 3) (pe_ix ix_tup (pv 4) pe_int (fun _ _ => rfl)) (fun _ _ => rfl)) pe_int (fun _ _ => rfl)) (pe_ix ix_tup (pv 4) pe_int (fun _ _ => rfl)) (fun _ _ => rfl)))
          (pss_cons (ps_setcomp1 (i := 6) (N' := ["turn", "bag", "book", "door"]) (js := [none, some 2, some 3, some 5]) rfl rfl nd rfl (Or.inl rfl) (blk_of (defScope lLaw) (by decide +kernel)) ⟨rfl, Or.inr (Or.inl rfl), rfl, rfl, Or.inr (Or.inl rfl), rfl, rfl, Or.inr (Or.inl rfl), rfl, trivial⟩
            (pi_range1 rfl T.range (pa_B (pe_op op_add pe_int (pe_op op_mul pe_int (pe_callTy call_int1 (by rfl) T.int b_int (pa_cons (pe_cmpR op_eq (pe_call G4 hr1 rfl m4 k4 b4 .nil pass0 (pa_cons (pv 2) (pa_K pe_int pa_nil))) pe_int (nomark _)) pa_nil)))) pa_nil))
            (fun cl s H fp => pg_name (i := 0) ndTBD rfl (Or.inl rfl)) (fun cl s H fp => pts_nil) (fun cl s H fp => pe_call G5 hr3 rfl m5 k5 b5 .nil pass0 (pa_cons (pv 1) (pa_cons (pv 2) (pa_cons (pv 3) pa_nil)))))
          (pss_one (ps_for PassesOwn.never rfl (pi_list (pe_lst (pa_K pe_str (pa_cons (pe_call G5 hr3 rfl m5 k5 b5 .nil pass0 (pa_cons (pv 2) (pa_cons (pv 3) (pa_cons (pv 5) pa_nil)))) (pa_cons (pe_bm PySem.F.plainAttrs_str PySem.F.slot_str_join PySem.F.type_str_join mt_join pe_str (pa_cons (pv 6) pa_nil)) pa_nil))))) (pg_name (i := 7) nd rfl (Or.inr rfl))
            (pss_cons (ps_set (i := 8) nd rfl (Or.inl rfl) (pe_call G6 hr2 rfl m6 k6 b6 .nil pass0 (pa_cons (pv 3) (pa_cons (pv 5) (pa_cons (pv 7) pa_nil)))))
            (pss_cons (ps_setcomp1 (i := 9) (N' := ["way", "book", "place", "text"]) (js := [none, some 3, some 4, some 7]) rfl rfl nd rfl (Or.inl rfl) (blk_of (defScope lLaw) (by decide +kernel)) ⟨rfl, Or.inr (Or.inl rfl), rfl, rfl, Or.inr (Or.inl rfl), rfl, rfl, Or.inr (Or.inl rfl), rfl, trivial⟩
              (pi_range1 rfl T.range (pa_cons pe_int pa_nil))
              (fun cl s H fp => pg_name (i := 0) ndWBP rfl (Or.inl rfl)) (fun cl s H fp => pts_nil) (fun cl s H fp => pe_call G7 hr rfl m7 k7 b7 .nil pass0 (pa_cons (pv 0) (pa_cons (pv 1) (pa_cons (pv 2) (pa_cons (pv 3) pa_nil))))))
            (pss_one (ps_if (pt_cmp (pc_isN (pv 8)))
              (pss_one (ps_if (pt_cmpR (op_ne_same hr) (pv 9) (pe_op op_rep (pe_lst (pa_L (pe_lst (pa_K pe_str (pa_K pe_non pa_nil))) pa_nil)) pe_int) (nomark _)) (pss_one (ps_ret pe_bl)) pss_nil))
              (pss_cons (ps_if (PW.pt (pw_or (pt_cmpR (op_ne_same hr) (pe_ix ix_list (pv 9) pe_int (fun _ _ => rfl)) (pe_lst (pa_K pe_str (pa_cons (pv 8) pa_nil))) (nomark _)) (pw_or (pt_cmpR op_ne (pe_ix ix_list (pe_ix ix_list (pv 9) pe_int (fun _ _ => rfl)) pe_int (fun _ _ => rfl)) pe_str (nomark _)) (pw_or1 (pt_not (pt_val (pe_isi T.isinst T.str b_str (pe_ix ix_list (pe_ix ix_list (pv 9) pe_int (fun _ _ => rfl)) pe_int (fun _ _ => rfl))))))))) (pss_one (ps_ret pe_bl)) pss_nil)
              (pss_one (ps_if (pt_cmpR op_ne (pe_call G8 hr2 rfl m8 k8 b8 .nil pass0 (pa_cons (pv 3) (pa_cons (pv 5) (pa_cons (pe_ix ix_list (pe_ix ix_list (pv 9) pe_int (fun _ _ => rfl)) pe_int (fun _ _ => rfl)) (pa_cons (pv 7) pa_nil))))) (pv 8) (nomark _)) (pss_one (ps_ret pe_bl)) pss_nil)))))))))) ) pss_nil))))))
      (pss_one (ps_ret pe_bl)), ?_⟩
    dsimp only [cxOf, Cx.nox, Cx.wish]
    have big2 : (100000 : Nat) ≤ sizeLine := by rw [sizeLine_eq]; decide
    have hmin : ∃ n : Nat, (if (30 : Int) < ((ns.map V.int).length : Int) then (30 : Int) else ((ns.map V.int).length : Int)) = (n : Int) ∧ n ≤ 30 := by
      by_cases h : (30 : Int) < ((ns.map V.int).length : Int)
      · exact ⟨30, by rw [if_pos h]; rfl, by decide⟩
      · exact ⟨(ns.map V.int).length, by rw [if_neg h], by omega⟩
    obtain ⟨n, en, hn⟩ := hmin
    refine D_hide fun D0 _ hR0 _ _ => seq_hide fun U hU => ?_
    refine ⟨_, rfl, a, _, rfl, .inl hS, _, _, rfl, _, _, rfl, rfl, (n : Int) + 2, ?_, by omega, by omega, ?_⟩
    · show [V.int ((if (30 : Int) < ((ns.map V.int).length : Int) then (30 : Int) else ((ns.map V.int).length : Int)) + 2)] = _
      rw [en]
    refine for_range (fun i σ H2 => ∃ u1 u2 u3 u4 u5 u6 u7 u8 u9, σ = [some (.ref a), u1, u2, u3, u4, u5, u6, u7, u8, u9] ∧ Same H H2) ⟨none, none, none, none, none, none, none, none, none, rfl, Same.refl _⟩ ?_ ?_
    · rintro i σ H0 hi ⟨u1, u2, u3, u4, u5, u6, u7, u8, u9, rfl, s0⟩
      have hi' : i < n + 2 := by omega
      refine ⟨_, rfl, _, rfl, a, ns, i, by simp, sq_same s0 hS, by omega, fun z H1 nz s1 hB1 => ?_⟩
      refine ⟨_, rfl, z, rfl, hB1, fun v b H2 A2 Rb okb => ?_⟩
      have up : ∀ H', Aft z H1 H' → Same H H' := fun H' A b' o e => A.1 b' o (fun g => by rw [g] at e; have := s0 _ _ e; rw [nz] at this; cases this) (s1 b' o (s0 b' o e))
      refine ⟨_, rfl, _, rfl, z, v, b, rfl, A2.2, Rb, okb, fun H3 A3 => ?_, fun pp tN iN H3 A3 hppz hpp htN hiN => ?_⟩
      · refine ⟨_, rfl, _, rfl, ?_⟩
        exact iteF' (by decide) ⟨_, _, _, _, _, _, _, _, _, rfl, up _ (A2.trans A3)⟩
      · refine ⟨_, rfl, _, rfl, iteT' (by rfl) ?_⟩
        have A13 := A2.trans A3
        have R3 := Rb.mono A3.1
        clear A2 A3 Rb
        obtain ⟨hb1, hb6, htok, hbB⟩ := id okb
        obtain ⟨ab, xs, rfl, habz, hab, hxl, Rt⟩ := rep_book R3
        obtain ⟨c, d, ys, ec, hcz, hdz, hc, hd, hyl, Ry⟩ := rep_tongue (reps_tongue (b := b) (i := tN) Rt htN)
        have exv : xs[tN]? = some (.ref c) := by
          have h1 : tN < xs.length := by omega
          have h2 : xs.getD tN .non = xs[tN] := by simp [h1]
          rw [List.getElem?_eq_getElem h1, ← h2, ec]
        have hyl : ys.length = (b.getD tN tg0).2.length := hyl
        have Ry : Reps z H3 ys ((b.getD tN tg0).2.map drD) := Ry
        obtain ⟨q2, e2, hqz2, hq2⟩ := rep_door (reps_door (ds := (b.getD tN tg0).2) (i := iN) Ry hiN)
        have eyv : ys[iN]? = some (.ref q2) := by
          have h1 : iN < ys.length := by omega
          have h2 : ys.getD iN .non = ys[iN] := by simp [h1]
          rw [List.getElem?_eq_getElem h1, ← h2, e2]
        obtain ⟨D, hD⟩ : ∃ D, D = (b.getD tN tg0).2.getD iN dr0 := ⟨_, rfl⟩
        have hDb : ∃ t ∈ b, D ∈ t.2 := ⟨_, getD_mem tg0 htN, by rw [hD]; exact getD_mem dr0 hiN⟩
        have hDok : DrOk b.length D := by rw [hD]; exact (htok _ (getD_mem tg0 htN)).2.2 _ (getD_mem dr0 hiN)
        have hin : 0 ≤ D.2.1 ∧ D.2.1 < b.length := hDok.2.1
        rw [← hD] at hq2
        refine seq_hide fun U2 hU2 => ?_
        refine ⟨_, rfl, _, rfl, pp, _, 0, _, rfl, rfl, SqT.of hpp, atI_nat (j := 0) rfl, ab, xs, tN, _, rfl, rfl, SqT.of hab, atI_nat exv, c, _, 1, _, rfl, rfl, SqT.of hc, atI_nat (j := 1) rfl, _, rfl, pp, _, 1, _, rfl, rfl, SqT.of hpp, atI_nat (j := 1) rfl, d, ys, iN, _, rfl, rfl, SqT.of hd, atI_nat eyv, hU2 _ _ (seq_hide fun U2 hU2 => ?_)⟩
        clear hc hd exv eyv ec e2 Ry hyl hcz hdz
        refine ⟨_, rfl, z, 6, rfl, A13.2, by decide, by decide, fun r4 H4 hr4 A4 => ⟨rfl, .inr ⟨_, rfl, ?_⟩⟩⟩
        have A14 := A13.trans A4
        have hppB : H4 pp = some (.tup [.int (tN : Int), .int (iN : Int)]) := A4.1 _ _ hppz hpp
        have R4 := R3.mono A4.1
        have hq4 := A4.1 _ _ hqz2 hq2
        obtain ⟨nG, enG, hnG⟩ : ∃ n : Nat, (2 : Int) + 20 * (if decide (V.int (r4 : Int) = V.int 0) = true then 1 else 0) = (n : Int) ∧ n ≤ 22 := by
          split
          · exact ⟨22, by decide, by decide⟩
          · exact ⟨2, by decide, by decide⟩
        refine ⟨_, _, rfl, rfl, .inl ⟨by decide, by decide⟩, _, _, rfl, rfl, (nG : Int), ?_, by omega, by omega, fun pG npG => ?_⟩
        · show [V.int ((2 : Int) + 20 * (if decide (V.int (r4 : Int) = V.int 0) = true then 1 else 0))] = _
          rw [enG]
        have hpGz : pG ≠ z := A4.2.ne npG
        have etG : ((nG : Int)).toNat = nG := by omega
        rw [etG]
        clear hpp hab Rt R3 hq2
        refine loop_by (n := nG) (item := fun j => .int (0 + j)) (fun j σ H5 => (∃ u, σ = [u, some (.ref z), some (.ref ab), some (.ref q2)]) ∧ Aft z H4 H5 ∧ ∃ ts : List Str, ts.length = j ∧ (∀ t ∈ ts, t.length ≤ 100) ∧ H5 pG = some (.lst (ts.map V.str))) ⟨⟨none, rfl⟩, (Aft.refl A4.2).new npG, [], rfl, (fun t h => nomatch h), upd_same⟩
          (fun j σ H5 hj _ => hj) (fun σ H5 _ => Nat.le_refl _) (fun j σ H5 x H' hj _ y => ⟨y.1, y.2⟩) (fun j σ H5 hj ⟨⟨u, hu⟩, A5, ts, htl, hts, hpG⟩ => ?_) (fun σ H5 ⟨_, A5, ts, htl, hts, hpG⟩ => ?_)
        · subst hu
          dsimp only [gName]
          refine ⟨_, rfl, _, rfl, _, rfl, z, .ref ab, b, q2, D, rfl, A5.2, R4.mono A5.1, okb, A5.1 _ _ hqz2 hq4, hin, hDb, fun t H6 A6 ht => ⟨_, A6.1 _ _ hpGz hpG, by rw [List.length_map]; omega, ⟨_, rfl⟩, (A5.trans A6).upd npG hpGz, ts ++ [t], by rw [List.length_append, htl]; rfl, fun t' h' => ?_, by rw [upd_same, List.map_append]; rfl⟩⟩
          rcases List.mem_append.mp h' with h' | h'
          · exact hts _ h'
          · rw [List.mem_singleton.mp h']; exact ht
        refine hU2 _ _ ?_
        have hglu := glued_len hts
        generalize hgt : PySem.Builtin.Str.glued (Str.ofString "") ts = t2 at *
        rw [htl] at hglu
        refine ⟨_, rfl, _, rfl, _, rfl, z, .ref ab, b, q2, D, rfl, A5.2, R4.mono A5.1, okb, A5.1 _ _ hqz2 hq4, hin, hDb, fun t1 H6 A6 ht1 => ?_⟩
        refine ⟨rfl, _, rfl, _, pG, ts, rfl, rfl, SqL.of (A6.1 _ _ hpGz hpG), by omega, by decide +kernel, hts, ?_⟩
        rw [hgt]
        refine ⟨by show (3 : Nat) ≤ _; omega, fun pT npT => ?_⟩
        have s7 := Same.new (o := .lst [.str "", .str t1, .str t2]) npT
        have hpT := upd_same (H := H6) (a := pT) (o := .lst [.str "", .str t1, .str t2])
        have A47 := ((A5.trans A6)).same s7
        generalize upd H6 pT (.lst [.str "", .str t1, .str t2]) = H7 at *
        have A17 := A14.trans A47
        have R7 := R4.mono A47.1
        have hq7 := A47.1 _ _ hqz2 hq4
        have hpp7 := A47.1 _ _ hppz hppB
        have htx : ∀ t, V.str t ∈ ([.str "", .str t1, .str t2] : List V) → t.length ≤ 20000 := fun t h => by
          rcases List.mem_cons.mp h with e | h
          · injection e with e
            rw [e]; decide
          · rcases List.mem_cons.mp h with e | h
            · injection e with e
              rw [e]; omega
            · have e := List.mem_singleton.mp h
              injection e with e
              rw [e]
              have : nG * 100 ≤ 22 * 100 := Nat.mul_le_mul_right _ hnG
              omega
        clear hgt hglu hts htl hpG ht1 A5 A6 A4 A14
        refine ⟨pT, rfl, ⟨_, SqL.of hpT⟩, for_list (K := K) (a := pT) (xs := [.str "", .str t1, .str t2]) (fun j σ H8 => ∃ u7 u8 u9, σ = [some (.ref a), some (.int (0 + i)), some (.ref z), some (.ref ab), some (.ref pp), some (.ref q2), some (.ref pG), u7, u8, u9] ∧ Same H7 H8) ⟨_, _, _, rfl, Same.refl _⟩ (fun j σ H8 _ ⟨_, _, _, _, s8⟩ => SqL.of (s8 _ _ hpT)) (fun j xv σ H8 hj ⟨u7, u8, u9, hσ, s8⟩ => ?_) (fun σ H8 ⟨u7, u8, u9, hσ, s8⟩ => ?_)⟩
        · subst hσ
          obtain ⟨t, rfl⟩ : ∃ t, xv = V.str t := by
            rcases j with _ | _ | _ | j
            · injection hj with hj; exact ⟨_, hj.symm⟩
            · injection hj with hj; exact ⟨_, hj.symm⟩
            · injection hj with hj; exact ⟨_, hj.symm⟩
            · cases hj
          have htl := htx t (List.mem_of_getElem? hj)
          obtain ⟨esc, hesc⟩ : ∃ esc, esc = (b.getD D.2.1.toNat tg0).1 := ⟨_, rfl⟩
          have hel : esc.length = 0 ∨ esc.length = 1 := by
            have := esc_le1 (htok _ (getD_mem tg0 (show D.2.1.toNat < b.length by omega))).1
            rw [← hesc] at this
            omega
          have B8 := A17.2.same s8
          have R8 := R7.mono s8.x (z := z)
          have hq8 := s8 _ _ hq7
          have hpp8 := s8 _ _ hpp7
          show gName _ _ _ _ _
          dsimp only [gName]
          refine seq_hide fun U3 hU3 => ?_
          refine ⟨_, rfl, _, rfl, _, rfl, z, .ref ab, b, t, q2, D, esc, rfl, R8, okb, hq8, hin, hDb, htl, hesc, fun ho H9 s9 => hU3 _ _ (seq_hide fun U3 hU3 => ?_), fun h1 h2 H9 s9 => hU3 _ _ (seq_hide fun U3 hU3 => ?_)⟩
          · have ho := len_esc hel ho
            have B9 := B8.same s9
            obtain ⟨cc1, cc2⟩ := cut_close (x := t) (ms := inMarks b D.2.1 D.2.2) (close := D.2.2) ho
            have hWl := putW_len esc (inMarks b D.2.1 D.2.2) D.2.2 (by omega) t.cps.toList
            generalize hwr : cutS (putW esc (inMarks b D.2.1 D.2.2) D.2.2 t.cps.toList) none (some (((putW esc (inMarks b D.2.1 D.2.2) D.2.2 t.cps.toList).length : Int) - (D.2.2.length : Int))) = wr at *
            generalize hcs : costG esc (inMarks b D.2.1 D.2.2) D.2.2 t.cps.toList = cs at *
            refine ⟨_, rfl, by omega, by omega, fun pC npC => ?_⟩
            refine two_new (fun l => [.str "", if (0 : Int) + (l : Int) = 0 then .str wr else .int (cs : Int)]) (fun σ => ∃ u, σ = [u, some (.ref ab), some (.ref pp), some (.str t)]) ⟨none, rfl⟩ npC itok_rng (fun l σ H10 C hl ⟨u, hu⟩ s10 hC => ?_) (fun σ H10 r0 r1 s10 n0 n1 hpC hr0 hr1 => ?_)
            · subst hu
              dsimp only [gName]
              refine ⟨_, rfl, _, rfl, _, rfl, _, rfl, z, .ref ab, b, t, _, pp, tN, iN, D, esc, rfl, by omega, B9.same s10, R8.mono (s9.trans s10).x, okb, (s9.trans s10) _ _ hpp8, htN, hiN, hD, hesc, htl, fun _ p H' s' np hp => hC _ p H' ⟨_, rfl⟩ s' np ?_, fun h1 h2 => ?_⟩
              · rw [hwr, hcs] at hp
                exact hp
              · exfalso
                rcases ho with g | g
                · rw [h1] at g; cases g
                · rw [h2] at g; cases g
            · have hr0 : H10 r0 = some (.lst [.str "", .str wr]) := hr0
              have hr1 : H10 r1 = some (.lst [.str "", .int (cs : Int)]) := hr1
              have z0 : r0 ≠ z := B9.ne n0
              have z1 : r1 ≠ z := B9.ne n1
              have s9' := s9.trans s10
              refine hU3 _ _ ?_
              refine ⟨_, rfl, _, rfl, iteF' (fun g => by have := of_decide_eq_true g; cases this) (seq_hide fun U4 hU4 => ?_)⟩
              refine ⟨_, rfl, pC, _, 1, _, rfl, rfl, SqL.of hpC, atI_nat (j := 1) rfl, _, rfl, by show (2 : Nat) ≤ _; omega, fun pE npE => ?_⟩
              have s11 := Same.new (o := .lst [.str "", .int (cs : Int)]) npE
              have hE := upd_same (H := H10) (a := pE) (o := .lst [.str "", .int (cs : Int)])
              have hEz : pE ≠ z := (B9.same s10).ne npE
              generalize upd H10 pE (.lst [.str "", .int (cs : Int)]) = H11 at *
              refine ⟨z, z, [.str "", .int (cs : Int)], .lst (s11 _ _ hr1) z1 (.cons (.str _ (by decide)) (.cons (.int _) .nil)), .lst hE hEz (.cons (.str _ (by decide)) (.cons (.int _) .nil)), .cons (.str _ _) (.cons (.int _ _) (.nil _)), _, rfl, iteF ?_⟩
              refine ⟨_, rfl, pC, _, 0, _, rfl, rfl, SqL.of (s11 _ _ hpC), atI_nat (j := 0) rfl, r0, _, 0, _, rfl, rfl, SqL.of (s11 _ _ hr0), atI_nat (j := 0) rfl, rfl, _, rfl, iteF' (by decide +kernel) ?_⟩
              refine ⟨_, rfl, pC, _, 0, _, rfl, rfl, SqL.of (s11 _ _ hpC), atI_nat (j := 0) rfl, r0, _, 1, _, rfl, rfl, SqL.of (s11 _ _ hr0), atI_nat (j := 1) rfl, _, _, _, _, rfl, .str wr, kit_str K (.str wr), _, rfl, iteF (hU4 _ _ ?_)⟩
              refine ⟨_, rfl, _, rfl, _, rfl, pC, _, 0, _, rfl, rfl, SqL.of (s11 _ _ hpC), atI_nat (j := 0) rfl, r0, _, 1, _, rfl, rfl, SqL.of (s11 _ _ hr0), atI_nat (j := 1) rfl, _, rfl, z, .ref ab, b, t, wr, q2, D, esc, rfl, R8.mono (s9'.trans s11).x, okb, (s9'.trans s11) _ _ hq8, hin, hDb, htl, hesc, ho, cc1, fun H12 s12 => ?_⟩
              rw [hcs]
              refine ⟨_, rfl, rfl, _, rfl, iteF' (by simp) ⟨_, _, _, rfl, s8.trans ((s9'.trans s11).trans s12)⟩⟩
          · have B9 := B8.same s9
            refine ⟨_, rfl, by omega, by omega, fun pC npC => ?_⟩
            refine two_new (fun l => [.str "NoWay+", .non]) (fun σ => ∃ u, σ = [u, some (.ref ab), some (.ref pp), some (.str t)]) ⟨none, rfl⟩ npC itok_rng (fun l σ H10 C hl ⟨u, hu⟩ s10 hC => ?_) (fun σ H10 r0 r1 s10 n0 n1 hpC hr0 hr1 => ?_)
            · subst hu
              dsimp only [gName]
              refine ⟨_, rfl, _, rfl, _, rfl, _, rfl, z, .ref ab, b, t, _, pp, tN, iN, D, esc, rfl, by omega, B9.same s10, R8.mono (s9.trans s10).x, okb, (s9.trans s10) _ _ hpp8, htN, hiN, hD, hesc, htl, fun ho => ?_, fun _ _ p H' s' np hp => hC _ p H' ⟨_, rfl⟩ s' np hp⟩
              exfalso
              rcases ho with g | g
              · rw [h1] at g; cases g
              · rw [h2] at g; cases g
            · have z0 : r0 ≠ z := B9.ne n0
              have z1 : r1 ≠ z := B9.ne n1
              have B10 := B9.same s10
              have hpCz : pC ≠ z := B9.ne npC
              refine hU3 _ _ ?_
              refine ⟨_, rfl, _, rfl, iteT' (by decide) ?_⟩
              refine ⟨_, rfl, by show (2 : Nat) ≤ _; omega, fun q1 nq1 => ⟨by show (1 : Nat) ≤ _; omega, fun q2 nq2 => ?_⟩⟩
              have t1 := Same.new (o := .lst [.str "NoWay+", .non]) nq1
              have t2 := Same.new (o := .lst [.ref q1]) nq2
              have hq1 := t2 _ _ (upd_same (H := H10) (a := q1) (o := .lst [.str "NoWay+", .non]))
              have hq2 := upd_same (H := upd H10 q1 (.lst [.str "NoWay+", .non])) (a := q2) (o := .lst [.ref q1])
              have q1z : q1 ≠ z := B10.ne nq1
              have s11 := t1.trans t2
              generalize upd (upd H10 q1 (.lst [.str "NoWay+", .non])) q2 (.lst [.ref q1]) = H11 at *
              refine ⟨q2, 2, _, rfl, rfl, hq2, by decide, by decide, by show (1 * 2 : Nat) ≤ _; omega, fun q3 nq3 => ?_⟩
              have t3 := Same.new (o := .lst [.ref q1, .ref q1]) nq3
              have hq3 := upd_same (H := H11) (a := q3) (o := .lst [.ref q1, .ref q1])
              have q3z : q3 ≠ z := (B10.same s11).ne nq3
              have s12 := s11.trans t3
              show rSame false _ _ (upd H11 q3 (.lst [.ref q1, .ref q1])) _
              generalize upd H11 q3 (.lst [.ref q1, .ref q1]) = H12 at *
              have row : ∀ r, r ≠ z → H12 r = some (.lst [.str "NoWay+", .non]) → Rep z H12 (.ref r) (.lst [.str "NoWay+", .non]) := fun r hz h => .lst h hz (.cons (.str _ (by decide)) (.cons .non .nil))
              refine ⟨z, z, [.lst [.str "NoWay+", .non], .lst [.str "NoWay+", .non]], .lst (s12 _ _ hpC) hpCz (.cons (row _ z0 (s12 _ _ hr0)) (.cons (row _ z1 (s12 _ _ hr1)) .nil)), .lst hq3 q3z (.cons (row _ q1z (t3 _ _ hq1)) (.cons (row _ q1z (t3 _ _ hq1)) .nil)), .cons (.lst (.cons (.str _ _) (.cons (.non _) (.nil _)))) (.cons (.lst (.cons (.str _ _) (.cons (.non _) (.nil _)))) (.nil _)), _, rfl, iteF ⟨_, _, _, rfl, s8.trans ((s9.trans s10).trans s12)⟩⟩
        · subst hσ
          exact ⟨_, _, _, _, _, _, _, _, _, rfl, (up _ A17).trans s8⟩
    · rintro σ H0 ⟨u1, u2, u3, u4, u5, u6, u7, u8, u9, rfl, s0⟩
      exact hU _ _ (hR0 _ _ (k _))
end
end T1
namespace L2
open PySem PySem.Spec PyProof.Rows
end L2
namespace T1
open PySem L2
structure FK (K : PySem.W.Frag) (n : Str) (st : Stmt) (f : Addr) (fd : FuncData) : Prop where
  a : PySem.W.nsIn K mainGlobals n = some (some (.ref f))
  F : Fun K n n st f fd
section
variable {K : PySem.W.Frag} {n q x : Str} {st : Stmt} {f C : Addr} {fd : FuncData} {oc kV doc pm cdv ct : Value} {od an : Option Addr} {osl : Array (Option Value)}
theorem fk (a : PySem.W.nsIn K mainGlobals n = some (some (.ref f))) (l : K.lookup f = some ⟨oc, od, .func (PySem.W.fnOf n n (defArgs st) (defBody st) (defScope st) .none kV doc pm an cdv ct), osl⟩) (c : PySem.W.codeIn K cdv n = true) (k : PySem.W.keepIn K (.ref f) = true) :
    FK K n st f (PySem.W.fnOf n n (defArgs st) (defBody st) (defScope st) .none kV doc pm an cdv ct) := ⟨a, fun_mk l c k⟩
theorem FK.m {h : Heap} {mg : Str → Option Value} (A : FK K n st f fd) (X : K.In h) (G : h.Ns mainGlobals mg) : mg n = some (.ref f) := PySem.W.mg_of X G A.a
theorem FK.law {h : Heap} {mg : Str → Option Value} (A : FK K n st f fd) (X : K.In h) (G : h.Ns mainGlobals mg) {g : Addr} (e : mg n = some (.ref g)) : g = f := by
  have := e.symm.trans (A.m X G)
  injection this with this
  injection this
abbrev fo (x q : Str) (st : Stmt) (kV doc pm : Value) (an : Option Addr) (cdv ct : Value) : FuncData := PySem.W.fnOf x q (defArgs st) (defBody st) (defScope st) .none kV doc pm an cdv ct
theorem bn1 {p : Str} (F : Fun K x q st f fd) (h : ∀ kV doc pm an cdv ct a, bindArgs (fo x q st kV doc pm an cdv ct) ⟨[a], []⟩ = pure [(p, a)]) : Binds K fd [p] [] :=
  F.binds fun _ _ _ _ _ _ us hl => bd1 (f := fun us => bindArgs _ ⟨us, []⟩) (g := fun us => pure (List.zip _ us)) (h _ _ _ _ _ _) us hl
theorem bn2 {p p2 : Str} (F : Fun K x q st f fd) (h : ∀ kV doc pm an cdv ct a b, bindArgs (fo x q st kV doc pm an cdv ct) ⟨[a, b], []⟩ = pure [(p, a), (p2, b)]) : Binds K fd [p, p2] [] :=
  F.binds fun _ _ _ _ _ _ us hl => bd2 (f := fun us => bindArgs _ ⟨us, []⟩) (g := fun us => pure (List.zip _ us)) (h _ _ _ _ _ _) us hl
theorem bn3 {p p2 p3 : Str} (F : Fun K x q st f fd) (h : ∀ kV doc pm an cdv ct a b c, bindArgs (fo x q st kV doc pm an cdv ct) ⟨[a, b, c], []⟩ = pure [(p, a), (p2, b), (p3, c)]) : Binds K fd [p, p2, p3] [] :=
  F.binds fun _ _ _ _ _ _ us hl => bd3 (f := fun us => bindArgs _ ⟨us, []⟩) (g := fun us => pure (List.zip _ us)) (h _ _ _ _ _ _) us hl
theorem bn4 {p p2 p3 p4 : Str} (F : Fun K x q st f fd) (h : ∀ kV doc pm an cdv ct a b c d, bindArgs (fo x q st kV doc pm an cdv ct) ⟨[a, b, c, d], []⟩ = pure [(p, a), (p2, b), (p3, c), (p4, d)]) : Binds K fd [p, p2, p3, p4] [] :=
  F.binds fun _ _ _ _ _ _ us hl => bd4 (f := fun us => bindArgs _ ⟨us, []⟩) (g := fun us => pure (List.zip _ us)) (h _ _ _ _ _ _) us hl
theorem bnl (F : Fun K x q st f fd) (h : ∀ kV doc pm an cdv ct (s : Shared) (v : Value), BindsTo s (fo x q st kV doc pm an cdv ct) ⟨[v], []⟩ [("script", v)]) : ∀ (s : Shared) (v : Value), BindsTo s fd ⟨[v], []⟩ [("script", v)] := by
  obtain ⟨oc, od, kV, doc, pm, an, cdv, ct, osl, rfl, lk, hcd⟩ := F.ex
  exact h _ _ _ _ _ _
end
end T1
namespace T1
open PySem L2
/-! ### what the top has written, and the law's own head -/
set_option maxHeartbeats 0 in
theorem all_mk {l : PySem.W.OpenLaw} {w : World} {K : PySem.W.Frag} {h : Heap} {mg : Str → Option Value} {fa  f1 f2 f3 f4 f5 f6 f7 f8 f9 f10 f11 f12 f13 f14 f15 f16 f17 f18 f19 f20 f21 f22 yN y1 y2 y3 y4 y5 y6 y7 y8 : Addr} {d1 d2 d3 d4 d5 d6 d7 d8 d9 d10 d11 d12 d13 d14 d15 d16 d17 d18 d19 d20 d21 d22 : FuncData} (X : K.In h) (G : h.Ns mainGlobals mg) (hfa : mg "law" = some (.ref fa))
    (A1 : FK K "is_number_below" sIsNumberBelow f1 d1)
    (A2 : FK K "tongue_within" sWithin f2 d2)
    (A3 : FK K "possible_marks" sPoss f3 d3)
    (A4 : FK K "room_behind" sRoomBehind f4 d4)
    (A5 : FK K "could_fit" sCouldFit f5 d5)
    (A6 : FK K "put_in" sPutIn f6 d6)
    (A7 : FK K "fewest_escapes" sFewestEscapes f7 d7)
    (A8 : FK K "_law_bag" lBag f8 d8)
    (A9 : FK K "_law_take" lTake f9 d9)
    (A10 : FK K "_law_mark" lMk f10 d10)
    (A11 : FK K "_law_fits_book" lFits f11 d11)
    (A12 : FK K "_law_book" lBook f12 d12)
    (A13 : FK K "_law_marks" lMarks f13 d13)
    (A14 : FK K "_law_text" lText f14 d14)
    (A15 : FK K "_law_door" lDoor f15 d15)
    (A16 : FK K "_law_inside" lInside f16 d16)
    (A17 : FK K "_law_unput" lUnput f17 d17)
    (A18 : FK K "_law_fewest" lFewest f18 d18)
    (A19 : FK K "_law_kinds" lKinds f19 d19)
    (A20 : FK K "_law_tried" lTried f20 d20)
    (A21 : FK K "_law_own_text" lOwnText f21 d21)
    (A22 : FK K "law" lLaw f22 d22)
    (z1 : PySem.W.nsIn K mainGlobals "len" = some none)
    (z2 : PySem.W.nsIn K mainGlobals "ord" = some none)
    (z3 : PySem.W.nsIn K mainGlobals "all" = some none)
    (z4 : PySem.W.nsIn K mainGlobals "any" = some none)
    (z5 : PySem.W.nsIn K mainGlobals "isinstance" = some none)
    (z6 : PySem.W.nsIn K mainGlobals "str" = some none)
    (z7 : PySem.W.nsIn K mainGlobals "int" = some none)
    (z8 : PySem.W.nsIn K mainGlobals "bool" = some none)
    (z9 : PySem.W.nsIn K mainGlobals "tuple" = some none)
    (z10 : PySem.W.nsIn K mainGlobals "range" = some none)
    (z11 : PySem.W.nsIn K mainGlobals "sorted" = some none)
    (z12 : PySem.W.nsIn K mainGlobals "max" = some none)
    (z13 : PySem.W.nsIn K mainGlobals "list" = some none)
    (z14 : PySem.W.nsIn K mainGlobals "set" = some none)
    (z15 : PySem.W.nsIn K mainGlobals "min" = some none)
    (z16 : PySem.W.nsIn K mainGlobals "ValueError" = some none)
    (z17 : PySem.W.nsIn K mainGlobals "reversed" = some none)
    (aE0 : PySem.W.nsIn K mainGlobals "NestError" = some (some (.ref yN)))
    (aE1 : PySem.W.nsIn K mainGlobals "NoDoor" = some (some (.ref y1)))
    (aE2 : PySem.W.nsIn K mainGlobals "NoPlace" = some (some (.ref y2)))
    (aE3 : PySem.W.nsIn K mainGlobals "NoRow" = some (some (.ref y3)))
    (aE4 : PySem.W.nsIn K mainGlobals "NoText" = some (some (.ref y4)))
    (aE5 : PySem.W.nsIn K mainGlobals "NoTongue" = some (some (.ref y5)))
    (aE6 : PySem.W.nsIn K mainGlobals "NoWay" = some (some (.ref y6)))
    (aE7 : PySem.W.nsIn K mainGlobals "Nothing" = some (some (.ref y7)))
    (aE8 : PySem.W.nsIn K mainGlobals "TooMany" = some (some (.ref y8)))
    (xE1 : errB K yN [y1, y2, y3, y4, y5, y6, y7, y8] y1 [true, false, false, false, false, false, false, false] = true)
    (xE6 : errB K yN [y1, y2, y3, y4, y5, y6, y7, y8] y6 [false, false, false, false, false, true, false, false] = true) :
    ∃ fd : FuncData, (∀ (s : Shared) (v : Value), BindsTo s fd ⟨[v], []⟩ [("script", v)]) ∧ ∀ base : Heap, K.In base → base.Ns mainGlobals mg → FnOk l.prog w K mg base CX0 6 fa fd ["script"] (spLaw14 K) := by
  have e := A22.law X G hfa
  subst e
  have T : TxtB mg := ⟨PySem.W.mg_none_of X G z1, PySem.W.mg_none_of X G z2, PySem.W.mg_none_of X G z3, PySem.W.mg_none_of X G z4, PySem.W.mg_none_of X G z5, PySem.W.mg_none_of X G z6, PySem.W.mg_none_of X G z7, PySem.W.mg_none_of X G z8, PySem.W.mg_none_of X G z9, PySem.W.mg_none_of X G z10, PySem.W.mg_none_of X G z11, PySem.W.mg_none_of X G z12⟩
  have T2 : Txt2 mg := ⟨PySem.W.mg_none_of X G z13, PySem.W.mg_none_of X G z14, PySem.W.mg_none_of X G z15⟩
  have hve := PySem.W.mg_none_of X G z16
  have hrev := PySem.W.mg_none_of X G z17
  have b1 := bn2 (p := "thing") (p2 := "bound") A1.F fun _ _ _ _ _ _ _ _ => rfl
  have b2 := bn1 (p := "doors") A2.F fun _ _ _ _ _ _ _ => rfl
  have b3 := bn2 (p := "book") (p2 := "doors") A3.F fun _ _ _ _ _ _ _ _ => rfl
  have b4 := bn3 (p := "book") (p2 := "tongue") (p3 := "number") A4.F fun _ _ _ _ _ _ _ _ _ => rfl
  have b5 := bn2 (p := "marks") (p2 := "rest") A5.F fun _ _ _ _ _ _ _ _ => rfl
  have b6 := bn4 (p := "book") (p2 := "tongue") (p3 := "number") (p4 := "text") A6.F fun _ _ _ _ _ _ _ _ _ _ => rfl
  have b7 := bn4 (p := "book") (p2 := "tongue") (p3 := "number") (p4 := "text") A7.F fun _ _ _ _ _ _ _ _ _ _ => rfl
  have b8 := bn2 (p := "script") (p2 := "k") A8.F fun _ _ _ _ _ _ _ _ => rfl
  have b9 := bn2 (p := "bag") (p2 := "many") A9.F fun _ _ _ _ _ _ _ _ => rfl
  have b10 := bn2 (p := "bag") (p2 := "signs") A10.F fun _ _ _ _ _ _ _ _ => rfl
  have b11 := bn1 (p := "book") A11.F fun _ _ _ _ _ _ _ => rfl
  have b12 := bn1 (p := "bag") A12.F fun _ _ _ _ _ _ _ => rfl
  have b13 := bn1 (p := "book") A13.F fun _ _ _ _ _ _ _ => rfl
  have b14 := bn3 (p := "bag") (p2 := "book") (p3 := "most") A14.F fun _ _ _ _ _ _ _ _ _ => rfl
  have b15 := bn2 (p := "bag") (p2 := "book") A15.F fun _ _ _ _ _ _ _ _ => rfl
  have b16 := bn2 (p := "book") (p2 := "door") A16.F fun _ _ _ _ _ _ _ _ => rfl
  have b17 := bn4 (p := "book") (p2 := "door") (p3 := "written") (p4 := "text") A17.F fun _ _ _ _ _ _ _ _ _ _ => rfl
  have b18 := bn3 (p := "book") (p2 := "door") (p3 := "text") A18.F fun _ _ _ _ _ _ _ _ _ => rfl
  have b19 := bn1 (p := "e") A19.F fun _ _ _ _ _ _ _ => rfl
  have b20 := bn4 (p := "way") (p2 := "book") (p3 := "place") (p4 := "text") A20.F fun _ _ _ _ _ _ _ _ _ _ => rfl
  have b21 := bn3 (p := "bag") (p2 := "book") (p3 := "door") A21.F fun _ _ _ _ _ _ _ _ _ => rfl
  refine ⟨_, bnl A22.F fun _ _ _ _ _ _ s v => .of_eq rfl, fun base _ _ => ?_⟩
  have G2 : FnOk l.prog w K mg base CX0 1 f2 _ ["doors"] spWithin := ok_within A2.F 
  have G3 : FnOk l.prog w K mg base CX0 2 f3 _ ["book", "doors"] spPoss := ok_poss A3.F A2.F.kp b2 (A2.m X G) G2
  have G1 : FnOk l.prog w K mg base CX0 1 f1 _ ["thing", "bound"] spNumG := ok_numG A1.F T 
  have TN : TxtN mg yN y1 y2 y3 y4 y5 y6 y7 y8 := ⟨⟨PySem.W.mg_of X G aE1, PySem.W.mg_of X G aE2, PySem.W.mg_of X G aE3, PySem.W.mg_of X G aE4, PySem.W.mg_of X G aE5, PySem.W.mg_of X G aE6, PySem.W.mg_of X G aE7, PySem.W.mg_of X G aE8, hve⟩, PySem.W.mg_of X G aE0⟩
  have XE1 := errC_of xE1
  have XE6 := errC_of xE6
  have G4 : FnOk l.prog w K mg base (CXE l.prog w) 2 f4 _ ["book", "tongue", "number"] (spRoom y1) := ok_room A4.F T XE1.ex TN.e1 A1.F.kp b1 (A1.m X G) G1
  have G5 : FnOk l.prog w K mg base CX0 1 f5 _ ["marks", "rest"] spCould := ok_could A5.F T 
  have G6 : FnOk l.prog w K mg base (CXE l.prog w) 3 f6 _ ["book", "tongue", "number", "text"] (spPut y6) := ok_put A6.F T hrev XE6.ex TN.e6 A4.F.kp b4 (A4.m X G) G4 A3.F.kp b3 (A3.m X G) G3 A5.F.kp b5 (A5.m X G) G5
  have G7 : FnOk l.prog w K mg base (CXE l.prog w) 4 f7 _ ["book", "tongue", "number", "text"] (spFew y6) := ok_few A7.F T A6.F.kp b6 (A6.m X G) G6
  have G8 : FnOk l.prog w K mg base CX0 1 f8 _ ["script", "k"] (spBag K) := ok_bag A8.F T 
  have G9 : FnOk l.prog w K mg base CX0 1 f9 _ ["bag", "many"] spTake := ok_take A9.F 
  have G10 : FnOk l.prog w K mg base CX0 2 f10 _ ["bag", "signs"] spMk := ok_mk A10.F T A9.F.kp b9 (A9.m X G) G9
  have G11 : FnOk l.prog w K mg base CX0 1 f11 _ ["book"] spFits := ok_fits A11.F T T2 
  have G12 : FnOk l.prog w K mg base CX0 3 f12 _ ["bag"] spBook := ok_lbook A12.F T T2 A9.F.kp b9 (A9.m X G) G9 A10.F.kp b10 (A10.m X G) G10 A11.F.kp b11 (A11.m X G) G11
  have G13 : FnOk l.prog w K mg base CX0 1 f13 _ ["book"] spLMarks := ok_lmarks A13.F 
  have G14 : FnOk l.prog w K mg base CX0 2 f14 _ ["bag", "book", "most"] spText := ok_text A14.F T A9.F.kp b9 (A9.m X G) G9 A13.F.kp b13 (A13.m X G) G13
  have G15 : FnOk l.prog w K mg base CX0 2 f15 _ ["bag", "book"] spDoor := ok_doorL A15.F T A9.F.kp b9 (A9.m X G) G9
  have G16 : FnOk l.prog w K mg base CX0 1 f16 _ ["book", "door"] spInside := ok_inside A16.F 
  have G17 : FnOk l.prog w K mg base CX0 2 f17 _ ["book", "door", "written", "text"] spUnput := ok_unput A17.F T A16.F.kp b16 (A16.m X G) G16
  have G18 : FnOk l.prog w K mg base CX0 2 f18 _ ["book", "door", "text"] spFewest := ok_fewest A18.F T T2 A16.F.kp b16 (A16.m X G) G16
  have G21 : FnOk l.prog w K mg base CX0 3 f21 _ ["bag", "book", "door"] spOwnT := ok_ownT A21.F T A16.F.kp b16 (A16.m X G) G16 A14.F.kp b14 (A14.m X G) G14 A9.F.kp b9 (A9.m X G) G9
  have GK : FnOkU l.prog w K mg base 1 f19 _ ["e"] (spKinds K y1 y2 y3 y4 y5 y6 y7 y8) := ok_kinds A19.F T TN.toTxtE
  have G20 : FnOk l.prog w K mg base CX0 5 f20 _ ["way", "book", "place", "text"] spTried14 := ok_tried14 A20.F TN XE6 A6.F.kp b6 (A6.m X G) G6 A7.F.kp b7 (A7.m X G) G7 A19.F.kp b19 (A19.m X G) GK
  exact ok_law14 A22.F T T2 A8.F.kp b8 (A8.m X G) G8 A12.F.kp b12 (A12.m X G) G12 A15.F.kp b15 (A15.m X G) G15 A9.F.kp b9 (A9.m X G) G9 A21.F.kp b21 (A21.m X G) G21 A18.F.kp b18 (A18.m X G) G18 A20.F.kp b20 (A20.m X G) G20 A17.F.kp b17 (A17.m X G) G17
theorem walk {l : PySem.W.OpenLaw} {q : Program} {loose : List Str} {XP : (Str → Option Value) → Heap → Prop} {YP : World → Heap → Prop} {d : DefRec} {K : Params → PySem.W.Frag} (hn : l.most = some 63) (hdf : d.params.defaults = [])
    (hY : ∀ (w : World) (h : Heap), YP w h → (K w.params).In h)
    (F : ∀ (w : World) (mg : Str → Option Value) (fa : Addr) (h : Heap), (K w.params).In h → h.Ns mainGlobals mg → mg d.name = some (.ref fa) →
      ∃ fd : FuncData, (∀ (s : Shared) (u : Value), BindsTo s fd ⟨[u], []⟩ [("script", u)]) ∧ ∀ base : Heap, (K w.params).In base → base.Ns mainGlobals mg → FnOk l.prog w (K w.params) mg base CX0 6 fa fd ["script"] (spLaw14 (K w.params))) :
    PySem.W.WalkO q loose XP YP l.row.toRowW d [] (fun f vs => PySem.call f vs) :=
  L2.walk_of (n := 63) (k := 6) (x := "script") (CX := fun _ => CX0) (sp := fun w => spLaw14 (K w.params)) hn (by decide) hdf ⟨rfl, by decide, by decide⟩ hY F (fun _ _ a ns hl _ hS => ⟨a, ns, rfl, hS, fun _ => rfl⟩) fun _ _ _ _ _ z => z
end T1
open PySem PySem.W PyProof.Rows
local macro_rules | `(tactic| walk_at "own def") => `(tactic| (refine' T1.fk ?k1 ?k2 ?k3 ?k4; (case k1 => k_is); (case k2 => k_is); (case k3 => k_is); (case k4 => k_is)))
local macro_rules | `(tactic| walk_at "own method") => `(tactic| (refine' T1.mkm ?k1 ?k2 ?k3 ?k4 ?k5; (case k1 => k_is); (case k2 => k_is); (case k3 => k_is); (case k4 => k_is); (case k5 => k_is)))
def PySem.W.Fast.tw9786794456145049659 : Nat := 0
def PySem.W.Fast.tw16811324851384692185 : Nat := 0
def PySem.W.Fast.tw3169352363620802609 : Nat := 0
def PySem.W.Fast.tw12547598057537441014 : Nat := 0
def PySem.W.Fast.tw11195767535117355406 : Nat := 0
def PySem.W.Fast.tw3595248232550509304 : Nat := 0
def PySem.W.Fast.tw17326691028401377445 : Nat := 0
def PySem.W.Fast.tw1917024648646486162 : Nat := 0
def PySem.W.Fast.tw6531620089249999279 : Nat := 0
def PySem.W.Fast.tw13314171908899965444 : Nat := 0
def PySem.W.Fast.tw12030695920121002024 : Nat := 0
def PySem.W.Fast.tw18121258508448647788 : Nat := 0
def PySem.W.Fast.tw7090587258649623632 : Nat := 0
def PySem.W.Fast.tw12072392765576687745 : Nat := 0
def PySem.W.Fast.tw12136534988312901313 : Nat := 0
def PySem.W.Fast.tw5552491343100458313 : Nat := 0
def PySem.W.Fast.tw17817802924319323218 : Nat := 0
def PySem.W.Fast.tw4834368866875561552 : Nat := 0
def PySem.W.Fast.tw1961355950659449167 : Nat := 0
def PySem.W.Fast.tw12280117078829718859 : Nat := 0
def PySem.W.Fast.tw12047399555401117787 : Nat := 0
def PySem.W.Fast.tw6882282324537794621 : Nat := 0
def PySem.W.Fast.tw7491257930285783035 : Nat := 0
def PySem.W.Fast.tw16892558423851765697 : Nat := 0
def PySem.W.Fast.tw12470797785163260552 : Nat := 0
def PySem.W.Fast.tw14183582641591299176 : Nat := 0
def PySem.W.Fast.tw17194841051803951132 : Nat := 0
def PySem.W.Fast.tw15539641547921732205 : Nat := 0
def PySem.W.Fast.tw11007956283959110714 : Nat := 0
def PySem.W.Fast.tw6114224779557874647 : Nat := 0
def PySem.W.Fast.tw6915678062466947697 : Nat := 0
def PySem.W.Fast.tw236808877146144234 : Nat := 0
def PySem.W.Fast.tw2425186854667808174 : Nat := 0
def PySem.W.Fast.tw10770373435981424736 : Nat := 0
def PySem.W.Fast.tw6276759195819542016 : Nat := 0
def PySem.W.Fast.tw12381064879420629549 : Nat := 0
def PySem.W.Fast.tw6223498879660422951 : Nat := 0
def PySem.W.Fast.tw5355085201746630963 : Nat := 0
def PySem.W.Fast.tw8478503138381293179 : Nat := 0
def PySem.W.Fast.tw8077133193257295409 : Nat := 0
def PySem.W.Fast.tw16233402189108190676 : Nat := 0
def PySem.W.Fast.tw3343060998925722278 : Nat := 0
def PySem.W.Fast.tw9398113009054783588 : Nat := 0
def PySem.W.Fast.tw17427478011362618742 : Nat := 0
def PySem.W.Fast.tw9313769501562661645 : Nat := 0
def PySem.W.Fast.tw2046455710983793707 : Nat := 0
def PySem.W.Fast.tw11478815158485600804 : Nat := 0
def PySem.W.Fast.tw2057374248128808644 : Nat := 0
def PySem.W.Fast.tw13371197283991587235 : Nat := 0
def PySem.W.Fast.tw18258747554764404348 : Nat := 0
def PySem.W.Fast.tw12011349143119233380 : Nat := 0
def PySem.W.Fast.tw13894056966431312941 : Nat := 0
def PySem.W.Fast.tw4244989110459834776 : Nat := 0
def PySem.W.Fast.tw10348878598851861152 : Nat := 0
def PySem.W.Fast.tw6877308805372530674 : Nat := 0
def PySem.W.Fast.tw2944985105575012300 : Nat := 0
def PySem.W.Fast.tw15939479568608282286 : Nat := 0
def PySem.W.Fast.tw4545705710435906988 : Nat := 0
def PySem.W.Fast.tw14097594943437267586 : Nat := 0
def PySem.W.Fast.tw5844568538858829490 : Nat := 0
def PySem.W.Fast.tw147646797743370261 : Nat := 0
def PySem.W.Fast.tw14871959234064969618 : Nat := 0
def PySem.W.Fast.tw6042474357784886911 : Nat := 0
def PySem.W.Fast.tw10106000479947813660 : Nat := 0
def PySem.W.Fast.tw8277791560500065441 : Nat := 0
def PySem.W.Fast.tw5663447441241793351 : Nat := 0
def PySem.W.Fast.tw13282864635548589047 : Nat := 0
set_option maxRecDepth 100000 in
set_option maxHeartbeats 0 in
theorem PySem.Challenge.cw_tonguenest_k14_whole_put_in_by_fewest_es_holds : PySem.Challenge.rw_tonguenest_k14_whole_put_in_by_fewest_es.Holds := by
  w_on; o_law; k_head; (case hw => w_witness2)
  k_fill
  refine T1.walk (l := PySem.Challenge.rw_tonguenest_k14_whole_put_in_by_fewest_es) rfl rfl (fun w h Y => PySem.W.kIn_of Y) ?F
  case F =>
    intro w mg fa h KX G hmg
    refine' T1.all_mk KX G hmg ?A1 ?A2 ?A3 ?A4 ?A5 ?A6 ?A7 ?A8 ?A9 ?A10 ?A11 ?A12 ?A13 ?A14 ?A15 ?A16 ?A17 ?A18 ?A19 ?A20 ?A21 ?A22 ?z1 ?z2 ?z3 ?z4 ?z5 ?z6 ?z7 ?z8 ?z9 ?z10 ?z11 ?z12 ?z13 ?z14 ?z15 ?z16 ?z17 ?aE0 ?aE1 ?aE2 ?aE3 ?aE4 ?aE5 ?aE6 ?aE7 ?aE8 ?xE1 ?xE6
    (case A1 => walk_at "own def")
    (case A2 => walk_at "own def")
    (case A3 => walk_at "own def")
    (case A4 => walk_at "own def")
    (case A5 => walk_at "own def")
    (case A6 => walk_at "own def")
    (case A7 => walk_at "own def")
    (case A8 => walk_at "own def")
    (case A9 => walk_at "own def")
    (case A10 => walk_at "own def")
    (case A11 => walk_at "own def")
    (case A12 => walk_at "own def")
    (case A13 => walk_at "own def")
    (case A14 => walk_at "own def")
    (case A15 => walk_at "own def")
    (case A16 => walk_at "own def")
    (case A17 => walk_at "own def")
    (case A18 => walk_at "own def")
    (case A19 => walk_at "own def")
    (case A20 => walk_at "own def")
    (case A21 => walk_at "own def")
    (case A22 => walk_at "own def")
    (case z1 => k_is)
    (case z2 => k_is)
    (case z3 => k_is)
    (case z4 => k_is)
    (case z5 => k_is)
    (case z6 => k_is)
    (case z7 => k_is)
    (case z8 => k_is)
    (case z9 => k_is)
    (case z10 => k_is)
    (case z11 => k_is)
    (case z12 => k_is)
    (case z13 => k_is)
    (case z14 => k_is)
    (case z15 => k_is)
    (case z16 => k_is)
    (case z17 => k_is)
    (case aE0 => k_is)
    (case aE1 => k_is)
    (case aE2 => k_is)
    (case aE3 => k_is)
    (case aE4 => k_is)
    (case aE5 => k_is)
    (case aE6 => k_is)
    (case aE7 => k_is)
    (case aE8 => k_is)
    (case xE1 => kernel_rfl)
    (case xE6 => kernel_rfl)
