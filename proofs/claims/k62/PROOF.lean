import PyProof.Rows.All
import Wide.All
import OpenK.AllK
import Wide.FinOn
import Lean
import PyProof.EqAt
import PyProof.EqKinds
import PyProof.TupleCall
import PyProof.ZipIter
import PyProof.Rows.ZipGen
import PyProof.ConsumeWalk
import PyProof.SumWalk
import PyProof.NeKinds
import PyProof.TupleKey
import PyProof.SetKind
import PyProof.IsRules
import PyProof.Rows.SetFrom
import KE.KDictList
import PyProof.SetRoads
import PyProof.WalksMore
import PyProof.Rows.SortShell
import KE.KSortTup
import KE.RegKIsAll
import KE.RegKTryMore
import PySem.Challenge.RW_switchsay_k62_any_table
-- CHANGE: your row's module here, as the last of these rows
set_option Elab.async false
set_option linter.all false
set_option maxRecDepth 100000
/-! THE HAND LAYER, for ints, bools, texts, own classes, LISTS and tuples (index, slices, in, append, pop ..), calls, loops. Paste it whole ahead of your own text; what your proof does not reach may be deleted. -/
namespace L2
open PySem PySem.Spec PyProof.Rows

/-- a key: an int or a str -/
abbrev Key := Sum Int Str
def keyIs : Key → Value → Bool
  | .inl k, v => Value.isInt k v
  | .inr x, v => Value.isStrOf x v
def keyH (w : World) : Key → Int
  | .inl k => hashInt k
  | .inr x => hashStr w x
theorem keyIs_shape : ∀ {k : Key} {v : Value}, keyIs k v = true → (∃ i t, k = Sum.inl i ∧ v = Value.int i t) ∨ (∃ x t, k = Sum.inr x ∧ v = Value.str x t)
  | .inl i, v, h => by
    obtain ⟨t, e⟩ := Value.isInt_shape (k := i) (v := v) h
    exact .inl ⟨i, t, rfl, e⟩
  | .inr x, v, h => by
    obtain ⟨t, e⟩ := Value.isStrOf_shape (x := x) (v := v) h
    exact .inr ⟨x, t, rfl, e⟩
theorem key_ll (a b : Int) : decide ((Sum.inl a : Key) = Sum.inl b) = (a == b) := by
  by_cases e : a = b
  · subst e; simp
  · have h : ¬ (Sum.inl a : Key) = Sum.inl b := fun q => e (Sum.inl.inj q)
    rw [decide_eq_false h]
    exact (beq_eq_false_iff_ne.mpr e).symm
theorem key_rr (a b : Str) : decide ((Sum.inr a : Key) = Sum.inr b) = decide (a = b) := by
  by_cases e : a = b
  · subst e; simp
  · have h : ¬ (Sum.inr a : Key) = Sum.inr b := fun q => e (Sum.inr.inj q)
    rw [decide_eq_false h, decide_eq_false e]
theorem key_lr (a : Int) (b : Str) : decide ((Sum.inl a : Key) = Sum.inr b) = false := decide_eq_false (fun q => nomatch q)
theorem key_rl (a : Str) (b : Int) : decide ((Sum.inr a : Key) = Sum.inl b) = false := decide_eq_false (fun q => nomatch q)

def mixKind (prog : Program) (w : World) : PySem.KeyKind prog w Key where
  is := keyIs
  hash := keyH w
  inj := fun v a b ha hb => by
    rcases keyIs_shape ha with ⟨i, t, rfl, rfl⟩ | ⟨x, t, rfl, rfl⟩
    · rcases keyIs_shape hb with ⟨j, u, rfl, e⟩ | ⟨y, u, rfl, e⟩
      · injection e with e1 _; rw [e1]
      · exact nomatch e
    · rcases keyIs_shape hb with ⟨j, u, rfl, e⟩ | ⟨y, u, rfl, e⟩
      · exact nomatch e
      · injection e with e1 _; rw [e1]
  byValue := fun k v h => by
    rcases keyIs_shape h with ⟨i, t, rfl, rfl⟩ | ⟨x, t, rfl, rfl⟩ <;> rfl
  pyHash := fun hv h => by
    rcases keyIs_shape hv with ⟨i, t, rfl, rfl⟩ | ⟨x, t, rfl, rfl⟩
    · exact wpAny_pyHash_int h
    · exact wpAny_pyHash_str h
  eqBool := fun hu hv h => by
    rcases keyIs_shape hu with ⟨i, t, rfl, rfl⟩ | ⟨x, t, rfl, rfl⟩
    · rcases keyIs_shape hv with ⟨j, u, rfl, rfl⟩ | ⟨y, u, rfl, rfl⟩
      · rw [key_ll] at h; exact wpAny_eqBool_int h
      · rw [key_lr] at h; exact SeqAt.EqAt.int_str i t y u _ _ _ _ h
    · rcases keyIs_shape hv with ⟨j, u, rfl, rfl⟩ | ⟨y, u, rfl, rfl⟩
      · rw [key_rl] at h; exact SeqAt.EqAt.str_int x t j u _ _ _ _ h
      · rw [key_rr] at h; exact wpAny_eqBool_str h
  «strs» := fun k x t v h => by
    rcases keyIs_shape h with ⟨i, u, rfl, e⟩ | ⟨y, u, rfl, e⟩
    · exact nomatch e
    · injection e with e1 _
      subst e1
      cases v <;> rfl

end L2

namespace L2
open PySem PySem.Spec PyProof.Rows

/-- a value, without the heap -/
inductive V where
  | non | bl (b : Bool) | int (i : Int) | str (x : Str) | byt (b : Array UInt8) | flt (b : UInt64) | ref (a : Addr) | ty (n : String)
  deriving DecidableEq

def RelV : V → Value → Prop
  | .non, u => u = Value.none
  | .bl b, u => u = Value.bool b
  | .int i, u => ∃ t, u = Value.int i t
  | .str x, u => ∃ t, u = Value.str x t
  | .byt b, u => ∃ t, u = Value.bytes b t
  | .flt b, u => ∃ t, u = Value.float b t
  | .ref a, u => u = Value.ref a
  | .ty n, u => u = Value.type n

abbrev Vals : List V → List Value → Prop := Paired RelV
theorem Vals.length {xs : List V} {us : List Value} (r : Vals xs us) : xs.length = us.length := Paired.length r
theorem Vals.get : ∀ {xs : List V} {us : List Value} {i : Nat} {x : V}, Vals xs us → xs[i]? = some x → ∃ u, us[i]? = some u ∧ RelV x u
  | _, _, _, _, .nil, e => by simp at e
  | _, _, 0, _, .cons r _, e => by simp at e; subst e; exact ⟨_, rfl, r⟩
  | _, _, i + 1, x, .cons _ t, e => by
    obtain ⟨u, h1, h2⟩ := Vals.get (i := i) (x := x) t (by simpa using e)
    exact ⟨u, by simpa using h1, h2⟩
theorem Vals.set {x : V} {u : Value} (r : RelV x u) : ∀ {xs : List V} {us : List Value} (i : Nat), Vals xs us → Vals (xs.set i x) (us.set i u)
  | _, _, _, .nil => .nil
  | _, _, 0, .cons _ t => .cons r t
  | _, _, i + 1, .cons q t => .cons q (Vals.set r i t)
theorem Vals.append : ∀ {xs ys : List V} {us ws : List Value}, Vals xs us → Vals ys ws → Vals (xs ++ ys) (us ++ ws)
  | _, _, _, _, .nil, s => s
  | _, _, _, _, .cons r t, s => .cons r (Vals.append t s)
theorem Vals.take : ∀ {xs : List V} {us : List Value} (n : Nat), Vals xs us → Vals (xs.take n) (us.take n)
  | _, _, 0, _ => .nil
  | _, _, _ + 1, .nil => .nil
  | _, _, n + 1, .cons r t => .cons r (Vals.take n t)
theorem Vals.drop : ∀ {xs : List V} {us : List Value} (n : Nat), Vals xs us → Vals (xs.drop n) (us.drop n)
  | _, _, 0, r => r
  | _, _, _ + 1, .nil => .nil
  | _, _, n + 1, .cons _ t => Vals.drop n t

def RelO : Option V → Option Value → Prop
  | some v, some u => RelV v u
  | none, none => True
  | _, _ => False
def KV {κ : Type} : List (κ × V) → List (κ × Value) → Prop := Paired fun (p : κ × V) (q : κ × Value) => p.1 = q.1 ∧ RelV p.2 q.2

/-- a key of a dict (00_mix): an int or a text -/
def kV : Key → V
  | .inl i => .int i
  | .inr x => .str x

/-- what stands at a tracked address -/
inductive HO where
  /-- a list -/
  | lst (xs : List V)
  /-- a tuple (never changes) -/
  | tup (xs : List V)
  /-- a dict whose keys are ints and texts; one whose keys are tuples of ints and texts (the empty one is both) -/
  | dK (kvs : List (Key × V)) | dT (kvs : List (List Key × V))
  /-- a set of ints: its members, its size -/
  | set (S : Int → Bool) (n : Nat)
  /-- an instance of the class at C, its dict at dx, its attributes -/
  | ins (C dx : Addr) (fs : List (Str × V))
  /-- the dict of the instance at x -/
  | own (x : Addr)
  /-- the dict of an exception -/
  | xd (fs : List (Str × V))
  /-- a bound method, f of x -/
  | met (f x : Addr)
  /-- a range object lo, lo + 1, .. below hi -/
  | rng (lo hi : Int)
  /-- a thing that is known to the object (the script; a dict while a loop walks it): read, never written while it is so -/
  | frz (o : Obj) (u : HO)
  /-- a code object's table -/
  | tbl (ps : Array Value)
  /-- any other thing, by what is true of its one object (a def of one's own: SetO a S n := HO.ext fun h => ..) -/
  | ext (φ : Heap → Prop)

abbrev Hp := Addr → Option HO
def upd (H : Hp) (a : Addr) (o : HO) : Hp := fun b => if b = a then some o else H b
theorem upd_same {H : Hp} {a : Addr} {o : HO} : upd H a o a = some o := by unfold upd; rw [if_pos rfl]
theorem upd_ne {H : Hp} {a b : Addr} {o : HO} (h : b ≠ a) : upd H a o b = H b := by unfold upd; rw [if_neg h]
/-- two objects of different content stand apart -/
theorem ne_of {H : Hp} {a b : Addr} {o u : HO} (h : H a = some o) (h' : H b = some u) (d : o ≠ u) : a ≠ b := by
  intro e; subst e; rw [h] at h'; exact d (Option.some.inj h')
theorem ne_of_none {H : Hp} {a b : Addr} {o : HO} (h : H a = some o) (h' : H b = none) : a ≠ b := by
  intro e; subst e; rw [h] at h'; cases h'

section
variable (P : Program) (w : World)
def ObjOk (H : Hp) (h : Heap) (a : Addr) : HO → Prop
  | .lst xs => xs.length ≤ sizeLine ∧ ∃ (its : List Value) (n : Nat), Vals xs its ∧ h.get? a = some { cls := .type "list", data := .seq its.toArray n }
  | .tup xs => xs.length ≤ sizeLine ∧ ∃ its : List Value, Vals xs its ∧ IsTup h a its.toArray
  | .dK kvs => kvs.length ≤ sizeLine ∧ (a == sysModules) = false ∧ ∃ vs, KV kvs vs ∧ h.DictOf (mixKind P w) a vs
  | .dT kvs => kvs.length ≤ sizeLine ∧ (a == sysModules) = false ∧ ∃ xs : List (List Key × Addr × Value),
      Paired (fun (p : List Key × V) (q : List Key × Addr × Value) => p.1 = q.1 ∧ H q.2.1 = some (.tup (p.1.map kV)) ∧ RelV p.2 q.2.2) kvs xs ∧
      ∃ o es ep, h.get? a = some o ∧ o.ExactDict ∧ o.data = .dict es ep ∧ es.toList = xs.map (entryOfKey (tupleKind (mixKind P w))) ∧ (xs.map (·.1)).Nodup
  | .set S n => h.SetOf (intKind P w) a S n
  | .ins C dx fs => H dx = some (.own a) ∧ fs.length ≤ 1000 ∧ dx ≠ a ∧ h.get? a = some (PySem.W.instObj C dx) ∧
      ∃ mA, h.Ns1 dx mA ∧ (∀ f, RelO (fs.lookup f) (mA f)) ∧ PySem.Within mA (fs.map (·.1))
  | .own _ => ∃ o, h.get? a = some o
  | .xd fs => ∃ mA, h.Ns1 a mA ∧ ∀ f, RelO (fs.lookup f) (mA f)
  | .rng lo hi => ∃ t u v, h.get? a = some { cls := .type "range", data := .fields #[.int lo t, .int hi u, .int 1 v] }
  | .frz o u => h.get? a = some o ∧ ObjOk H h a u
  | .tbl ps => h.get? a = some { cls := .none, data := .fields ps }
  | .met f x => h.get? a = some (PySem.W.methodObj (.ref f) (.ref x))
  | .ext φ => φ h ∧ (∃ o, h.get? a = some o) ∧ ∀ h1 h2 : Heap, φ h1 → (∀ o, h1.get? a = some o → h2.get? a = some o) → φ h2
/-- the abstract heap is held -/
def HOk (H : Hp) (h : Heap) : Prop := ∀ a o, H a = some o → ObjOk P w H h a o
end

section
variable {P : Program} {w : World} {H H' : Hp} {h h' : Heap} {a : Addr} {o : HO}
theorem ObjOk.lt (x : ObjOk P w H h a o) : a < h.objs.size := by
  cases o with
  | lst xs => obtain ⟨_, _, _, _, e⟩ := x; exact Heap.lt_size e
  | tup xs => obtain ⟨_, _, _, p⟩ := x; exact p.lt
  | dK kvs => obtain ⟨_, _, _, _, o, _, _, e, _⟩ := x; exact Heap.lt_size e
  | dT kvs => obtain ⟨_, _, _, _, o, _, _, e, _⟩ := x; exact Heap.lt_size e
  | set S n => obtain ⟨o, _, _, _, e, _⟩ := x; exact Heap.lt_size e
  | ins C dx fs => obtain ⟨_, _, _, e, _⟩ := x; exact Heap.lt_size e
  | own y => obtain ⟨_, e⟩ := x; exact Heap.lt_size e
  | xd fs => obtain ⟨_, ⟨_, _, _, e, _⟩, _⟩ := x; exact Heap.lt_size e
  | rng lo hi => obtain ⟨_, _, _, e⟩ := x; exact Heap.lt_size e
  | frz ob u => obtain ⟨e, _⟩ := x; exact Heap.lt_size e
  | tbl ps => exact Heap.lt_size (show h.get? a = some _ from x)
  | met f y => exact Heap.lt_size (show h.get? a = some _ from x)
  | ext φ => obtain ⟨_, ⟨_, e⟩, _⟩ := x; exact Heap.lt_size e
theorem Paired.mapP {α β : Type} {F G : α → β → Prop} : ∀ {l₁ : List α} {l₂ : List β}, Paired F l₁ l₂ → (∀ a b, F a b → G a b) → Paired G l₁ l₂
  | _, _, .nil, _ => .nil
  | _, _, .cons r t, f => .cons (f _ _ r) (Paired.mapP t f)
/-- what an object's description leans on: its own object, its own dict, the tuples -/
theorem ObjOk.stay (x : ObjOk P w H h a o) (k : ∀ b u, (b = a ∨ H b = some (.own a)) → h.get? b = some u → h'.get? b = some u)
    (ho : ∀ b, H b = some (.own a) → H' b = some (.own a)) (ht : ∀ b xs, H b = some (.tup xs) → H' b = some (.tup xs)) : ObjOk P w H' h' a o := by
  induction o with
  | lst xs => obtain ⟨z, its, n, r, e⟩ := x; exact ⟨z, its, n, r, k _ _ (.inl rfl) e⟩
  | tup xs => obtain ⟨z, its, r, ob, e, c⟩ := x; exact ⟨z, its, r, ob, k _ _ (.inl rfl) e, c⟩
  | dK kvs => obtain ⟨z, y, vs, r, ob, es, ep, e, c⟩ := x; exact ⟨z, y, vs, r, ob, es, ep, k _ _ (.inl rfl) e, c⟩
  | dT kvs =>
    obtain ⟨z, y, xs, r, ob, es, ep, e, c⟩ := x
    exact ⟨z, y, xs, Paired.mapP r fun p q z => ⟨z.1, ht _ _ z.2.1, z.2.2⟩, ob, es, ep, k _ _ (.inl rfl) e, c⟩
  | set S n => obtain ⟨ob, es, ep, t, e, c⟩ := x; exact ⟨ob, es, ep, t, k _ _ (.inl rfl) e, c⟩
  | ins C dx fs =>
    obtain ⟨d, z, ne, e, mA, ⟨od, es, ep, e2, c⟩, r⟩ := x
    exact ⟨ho _ d, z, ne, k _ _ (.inl rfl) e, mA, ⟨od, es, ep, k _ _ (.inr d) e2, c⟩, r⟩
  | own y => obtain ⟨ob, e⟩ := x; exact ⟨ob, k _ _ (.inl rfl) e⟩
  | xd fs => obtain ⟨mA, ⟨od, es, ep, e, c⟩, r⟩ := x; exact ⟨mA, ⟨od, es, ep, k _ _ (.inl rfl) e, c⟩, r⟩
  | rng lo hi => obtain ⟨t, u, v, e⟩ := x; exact ⟨t, u, v, k _ _ (.inl rfl) e⟩
  | frz ob u ih => obtain ⟨e, q⟩ := x; exact ⟨k _ _ (.inl rfl) e, ih q⟩
  | tbl ps =>
    have e : h.get? a = some { cls := .none, data := .fields ps } := x
    show h'.get? a = some { cls := .none, data := .fields ps }
    exact k a _ (.inl rfl) e
  | met f y =>
    have e : h.get? a = some (PySem.W.methodObj (.ref f) (.ref y)) := x
    show h'.get? a = some (PySem.W.methodObj (.ref f) (.ref y))
    exact k a _ (.inl rfl) e
  | ext φ => obtain ⟨p, ⟨o, e⟩, st⟩ := x; exact ⟨st _ _ p fun o q => k _ _ (.inl rfl) q, ⟨o, k _ _ (.inl rfl) e⟩, st⟩
theorem HOk.lt (x : HOk P w H h) (e : H a = some o) : a < h.objs.size := (x a o e).lt
theorem HOk.fresh (x : HOk P w H h) (e : h.objs.size ≤ a) : H a = none := by
  cases q : H a with
  | none => rfl
  | some u => exact absurd (Nat.lt_of_lt_of_le (x.lt q) e) (Nat.lt_irrefl _)
/-- every object of the heap is kept -/
theorem HOk.kept (x : HOk P w H h) (k : ∀ b u, h.get? b = some u → h'.get? b = some u) : HOk P w H h' := fun a o e =>
  (x a o e).stay (fun b u _ q => k b u q) (fun _ q => q) fun _ _ q => q
/-- a new object is laid and tracked -/
theorem HOk.laid (x : HOk P w H h) (k : ∀ b u, h.get? b = some u → h'.get? b = some u) (hp : h.objs.size ≤ a) (new : ObjOk P w (upd H a o) h' a o) : HOk P w (upd H a o) h' := fun b u e => by
  have hn := x.fresh hp
  by_cases hb : b = a
  · subst hb; rw [upd_same] at e; cases e; exact new
  · rw [upd_ne hb] at e
    exact (x b u e).stay (fun c v _ q => k c v q) (fun c q => by rw [upd_ne (ne_of_none q hn)]; exact q) fun c xs q => by rw [upd_ne (ne_of_none q hn)]; exact q
end

/-- what may be read as u: it is u, or a known u -/
def Rd (H : Hp) (a : Addr) (u : HO) : Prop := H a = some u ∨ ∃ o, H a = some (.frz o u)
theorem Rd.ok {P : Program} {w : World} {H : Hp} {h : Heap} {a : Addr} {u : HO} (r : Rd H a u) (x : HOk P w H h) : ObjOk P w H h a u := by
  rcases r with r | ⟨o, r⟩
  · exact x a u r
  · obtain ⟨_, q⟩ := x a _ r
    exact q
/-- what may be written -/
def Mut : Option HO → Prop
  | some (.lst _) => True
  | some (.dK _) => True
  | some (.dT _) => True
  | some (.set _ _) => True
  | some (.ins _ _ _) => True
  | some (.ext _) => True
  | _ => False
section
variable {P : Program} {w : World} {H : Hp} {h h' : Heap} {x e : Addr} {o' : HO}
/-- the object at e is changed: x itself, or the dict of the instance x -/
theorem HOk.write (ok : HOk P w H h) (mu : Mut (H x)) (he : e = x ∨ H e = some (.own x)) (k : ∀ b u, b ≠ e → h.get? b = some u → h'.get? b = some u) (heo : ∃ u, h'.get? e = some u)
    (new : ObjOk P w (upd H x o') h' x o') : HOk P w (upd H x o') h' := fun b u q => by
  have nown : ∀ c y, H c = some (.own y) → c ≠ x := fun c y r z => by subst z; rw [r] at mu; exact mu
  have ntup : ∀ c xs, H c = some (.tup xs) → c ≠ x := fun c xs r z => by subst z; rw [r] at mu; exact mu
  by_cases hb : b = x
  · subst hb; rw [upd_same] at q; cases q; exact new
  · rw [upd_ne hb] at q
    by_cases hbe : b = e
    · have q' : H b = some (.own x) := by
        rcases he with z | z
        · exact absurd (hbe.trans z) hb
        · rw [hbe]; exact z
      rw [q] at q'; cases q'
      obtain ⟨v, hv⟩ := heo
      exact ⟨v, by rw [hbe]; exact hv⟩
    · refine (ok b u q).stay (fun c v hc r => k c v ?_ r) (fun c r => by rw [upd_ne (nown c b r)]; exact r) fun c xs r => by rw [upd_ne (ntup c xs r)]; exact r
      rcases hc with rfl | hc
      · exact hbe
      · rintro rfl
        rcases he with z | z
        · exact nown c b hc z
        · rw [hc] at z; cases z; exact hb rfl
end

/-! ### kept unless tracked; of the frames at fs (the callers') the slots may change (an exception that passes writes there); of the records at ex (iterators) nothing is said -/
structure Un (fs ex : List Addr) (H H' : Hp) (h h' : Heap) : Prop where
  keep : ∀ b o, h.get? b = some o → H b = none → b ∉ fs → b ∉ ex → h'.get? b = some o
  slot : ∀ b o, h.get? b = some o → H b = none → b ∈ fs → b ∉ ex → ∃ sl, h'.get? b = some { o with slots := sl }
  free : ∀ b o, h.get? b = some o → H b = none → b ∉ ex → H' b = none
  there : ∀ b o, h.get? b = some o → b ∉ ex → ∃ o', h'.get? b = some o'
  tups : ∀ b xs, H b = some (.tup xs) → H' b = some (.tup xs)
  frzs : ∀ b o u, H b = some (.frz o u) → H' b = some (.frz o u)
  tbls : ∀ b ps, H b = some (.tbl ps) → ∃ more, H' b = some (.tbl (ps ++ more))
section
variable {fs fs' ex ex' : List Addr} {H H1 H2 : Hp} {h h1 h2 h' : Heap} {a x e : Addr} {o : HO}
theorem Un.any (u : Un fs ex H H1 h h1) {b : Addr} {ob : Obj} (q : h.get? b = some ob) (n : H b = none) (hx : b ∉ ex) : ∃ sl, h1.get? b = some { ob with slots := sl } := by
  by_cases hb : b ∈ fs
  · exact u.slot b ob q n hb hx
  · exact ⟨ob.slots, u.keep b ob q n hb hx⟩
theorem Un.kept (k : ∀ b u, h.get? b = some u → h'.get? b = some u) : Un fs ex H H h h' :=
  ⟨fun b ob q _ _ _ => k b ob q, fun b ob q _ _ _ => ⟨ob.slots, k b ob q⟩, fun _ _ _ n _ => n, fun b ob q _ => ⟨ob, k b ob q⟩, fun _ _ q => q, fun _ _ _ q => q, fun _ ps q => ⟨#[], by rw [q]; simp⟩⟩
theorem Un.refl : Un fs ex H H h h := Un.kept fun _ _ q => q
theorem Un.laid (k : ∀ b u, h.get? b = some u → h'.get? b = some u) (hp : h.objs.size ≤ a) (hn : H a = none) : Un fs ex H (upd H a o) h h' where
  keep := fun b u q _ _ _ => k b u q
  slot := fun b u q _ _ _ => ⟨u.slots, k b u q⟩
  free := fun b u q n _ => by rw [upd_ne (Nat.ne_of_lt (Nat.lt_of_lt_of_le (Heap.lt_size q) hp))]; exact n
  there := fun b u q _ => ⟨u, k b u q⟩
  tups := fun b xs q => by rw [upd_ne (ne_of_none q hn)]; exact q
  frzs := fun b u xs q => by rw [upd_ne (ne_of_none q hn)]; exact q
  tbls := fun b ps q => ⟨#[], by rw [upd_ne (ne_of_none q hn), q]; simp⟩
theorem Un.write (mu : Mut (H x)) (he : e = x ∨ H e = some (.own x)) (k : ∀ b u, b ≠ e → h.get? b = some u → h'.get? b = some u) (heo : ∃ u, h'.get? e = some u) : Un fs ex H (upd H x o) h h' := by
  have hx : ∀ b, H b = none → b ≠ x := fun b n z => by subst z; rw [n] at mu; exact mu
  have hb : ∀ b, H b = none → b ≠ e := fun b n z => by
    subst z
    rcases he with r | r
    · exact hx b n r
    · rw [n] at r; cases r
  have hm : ∀ b u, H b = some u → ¬ Mut (some u) → b ≠ x := fun b u q nm z => by subst z; rw [q] at mu; exact nm mu
  refine ⟨fun b u q n _ _ => k b u (hb b n) q, fun b u q n _ _ => ⟨u.slots, k b u (hb b n) q⟩, fun b u q n _ => by rw [upd_ne (hx b n)]; exact n, fun b u q _ => ?_,
    fun b xs q => by rw [upd_ne (hm b _ q fun z => z)]; exact q, fun b u xs q => by rw [upd_ne (hm b _ q fun z => z)]; exact q, fun b ps q => ⟨#[], by rw [upd_ne (hm b _ q fun z => z), q]; simp⟩⟩
  by_cases hbe : b = e
  · subst hbe; exact heo
  · exact ⟨u, k b u hbe q⟩
end

/-! ### the heap without what is tracked -/
def trk (h : Heap) (H : Hp) : List Addr := (List.range h.objs.size).filter fun a => (H a).isSome
def hidT (h : Heap) (H : Hp) : Heap := PySem.W.hideAll h (trk h H)
theorem hidT_size (h : Heap) (H : Hp) : (hidT h H).objs.size = h.objs.size := PySem.W.hideAll_size _ _
theorem hidT_get {h : Heap} {H : Hp} {b : Addr} {o : Obj} (e : h.get? b = some o) (n : H b = none) : (hidT h H).get? b = some o :=
  PySem.W.hideAll_get _ e fun hm => by
    have q : (H b).isSome = true := (List.mem_filter.mp hm).2
    rw [n] at q; simp at q
theorem of_hidT {h : Heap} {H : Hp} {b : Addr} {o : Obj} (e : (hidT h H).get? b = some o) : h.get? b = some o ∧ H b = none := by
  have e' : h.get? b = some o := PySem.W.of_hideAll (trk h H) e
  refine ⟨e', ?_⟩
  cases q : H b with
  | none => rfl
  | some x =>
    have hm : b ∈ trk h H := List.mem_filter.mpr ⟨List.mem_range.mpr (Heap.lt_size e'), by simp [q]⟩
    have z : (hidT h H).get? b = none := PySem.W.hideAll_none (trk h H) hm
    rw [z] at e; cases e

/-! ### OpenK's ledger, filled with every new object but one -/
def allNews (g h : Heap) (L : Addr) : List (Addr × Obj) := (List.range h.objs.size).filterMap fun a => if a = L ∨ (g.get? a).isSome = true then none else (h.get? a).map fun o => (a, o)
def rest (g h : Heap) (L d : Addr) : List (Addr × Obj) := (allNews g h L).filter fun p => decide (p.1 ≠ d)
end L2

namespace L2
open PySem PySem.Spec PyProof.Rows

/-- the module's facts, over the base: the heap at the law's entry without what is tracked there -/
structure Mod (K : PySem.W.Frag) (mg : Str → Option Value) (base : Heap) : Prop where
  kin : K.In base
  glob : base.Ns mainGlobals mg
  blt : ∃ mb, base.Ns builtinsNs mb ∧ ∀ x : Str, x ≠ "__name__" → mb x = bootBuiltins x
  nolimit : base.NoLimit

/-- the context: a def's body (or a comprehension's block) running. base: fixed through the whole law; s₀, H₀: the entry; outer: the frames whose slots others may change (a def's callers); stack: all frames that run;
   ex: iterators that were made ahead of the entry and are walked here (a comprehension's); fn: the names whose cells were made at the entry (a def: all; a comprehension's block: its own); calm: not within an except suite; pn: pins that every state bears; xe: what is wanted of an exception that leaves the code -/
structure Cx where
  prog : Program
  w : World
  K : PySem.W.Frag
  mg : Str → Option Value
  base : Heap
  A : Around
  N : List Str
  s₀ : Shared
  H₀ : Hp
  env : Env
  outer : List Env
  stack : List Env
  ex : List Addr
  fn : Str → Bool
  calm : Bool
  pn : List (Addr × Obj)
  xe : Value → Shared → Prop
/-- the callers' frames -/
def frs (l : List Env) : List Addr := l.filterMap (·.frame)
abbrev Cx.fs (X : Cx) : List Addr := frs X.outer

def Vis (sc : Scope) (x : Str) : Prop := sc.names.lookup x = some .local ∨ sc.names.lookup x = some .cell ∨ sc.names.lookup x = some .free
def Loc (sc : Scope) (x : Str) : Prop := sc.names.lookup x = some .local ∨ sc.names.lookup x = some .cell
def Look (env : Env) (h : Heap) (m : Str → Option Value) (x : Str) (u : Value) : Prop :=
  (env.kindOf x = some .local ∧ m x = some u) ∨ ((env.kindOf x = some .cell ∨ env.kindOf x = some .free) ∧ ∃ c, env.cells.lookup x = some c ∧ h.IsCell c (some u))

structure Cx.Ok (X : Cx) : Prop where
  mod : Mod X.K X.mg X.base
  kind : X.env.scope.kind = .function
  glob : X.env.globals = mainGlobals
  blt : X.env.builtins = builtinsNs
  above : X.s₀.heap.objs.size ≤ X.env.locals
  inj : ∀ x y c, X.env.cells.lookup x = some c → X.env.cells.lookup y = some c → x = y
  has : ∀ x, (X.env.kindOf x = some .cell ∨ X.env.kindOf x = some .free) → ∃ c, X.env.cells.lookup x = some c
  cab : ∀ x c, X.fn x = true → X.env.cells.lookup x = some c → X.s₀.heap.objs.size ≤ c
  hd : X.calm = true → X.A.handled = none
  frames : X.A.frames = some X.stack
  stk : X.stack = X.outer ∨ (X.stack = X.env :: X.outer ∧ X.env.frame = some X.env.locals)
  exf : ∀ b ∈ X.ex, b ≠ X.env.locals ∧ ∀ x c, X.env.cells.lookup x = some c → c ≠ b
  bs : ∀ b o, X.base.get? b = some o → X.s₀.heap.get? b = some o ∧ X.H₀ b = none
  bsz : X.base.objs.size ≤ X.s₀.heap.objs.size
  noex : ∀ b o, X.base.get? b = some o → b ∉ X.ex
  exfs : ∀ b ∈ X.ex, b ∉ X.fs
  funs : X.s₀.heap.FunFrames X.base X.outer
  frf : ∀ b ∈ X.fs, X.H₀ b = none

structure Inv (X : Cx) (pins : List (Addr × Obj)) (σ : List (Option V)) (H : Hp) (s : Shared) : Prop where
  ok : X.Ok
  os : s.os = X.s₀.os
  bare : AllBare s.gens
  base : Un X.fs X.ex X.H₀ H X.s₀.heap s.heap
  loc : ∃ m, s.heap.Ns X.env.locals m ∧ ∀ (i : Nat) (x : Str) (v : V), X.N[i]? = some x → σ[i]? = some (some v) → Vis X.env.scope x → ∃ u, RelV v u ∧ Look X.env s.heap m x u
  cell : ∀ x c, X.env.cells.lookup x = some c → ∃ v, s.heap.IsCell c v
  free : H X.env.locals = none
  freeC : ∀ x c, X.env.cells.lookup x = some c → H c = none
  pin : ∀ p ∈ X.pn ++ pins, s.heap.get? p.1 = some p.2 ∧ H p.1 = none ∧ p.1 ≠ X.env.locals ∧ p.1 ∉ X.fs ∧ ∀ v, p.2.data ≠ .cell v
  hok : HOk X.prog X.w H s.heap
  len : σ.length = X.N.length

section
variable {X : Cx} {pins : List (Addr × Obj)} {σ : List (Option V)} {H H' : Hp} {s : Shared} {h' : Heap}

theorem Cx.Ok.nofr (ok : X.Ok) {b : Addr} {o : Obj} (e : X.base.get? b = some o) : b ∉ X.fs := fun hb => by
  have := (ok.funs.mem hb).1
  rw [e] at this; cases this
theorem Inv.bs (I : Inv X pins σ H s) : ∀ b o, X.base.get? b = some o → s.heap.get? b = some o ∧ H b = none := fun b o e =>
  ⟨I.base.keep b o (I.ok.bs b o e).1 (I.ok.bs b o e).2 (I.ok.nofr e) (I.ok.noex b o e), I.base.free b o (I.ok.bs b o e).1 (I.ok.bs b o e).2 (I.ok.noex b o e)⟩
theorem Inv.bk (I : Inv X pins σ H s) : ∀ b o, X.base.get? b = some o → s.heap.get? b = some o := fun b o e => (I.bs b o e).1
theorem Inv.mod (I : Inv X pins σ H s) : Mod X.K X.mg X.base := I.ok.mod
theorem Inv.kIn (I : Inv X pins σ H s) : X.K.In s.heap := I.ok.mod.kin.keeps I.bk
theorem Inv.lt (I : Inv X pins σ H s) : X.env.locals < s.heap.objs.size := let ⟨_, hn, _⟩ := I.loc; hn.lt
theorem Inv.sz (I : Inv X pins σ H s) : X.s₀.heap.objs.size ≤ s.heap.objs.size := Nat.le_trans I.ok.above (Nat.le_of_lt I.lt)
theorem Inv.nofs (I : Inv X pins σ H s) {a : Addr} (h : s.heap.objs.size ≤ a) : a ∉ X.fs := fun hb => by
  obtain ⟨_, o, ho, _⟩ := I.ok.funs.mem hb
  exact absurd (Nat.lt_of_lt_of_le (Heap.lt_size ho) (Nat.le_trans I.sz h)) (Nat.lt_irrefl _)
theorem Inv.cne (I : Inv X pins σ H s) : ∀ x c, X.env.cells.lookup x = some c → c ≠ X.env.locals := fun x c e z => by
  obtain ⟨v, o, ho, hd⟩ := I.cell x c e
  obtain ⟨m, ⟨o', es, ep, ho', hd', _⟩, _⟩ := I.loc
  rw [z, ho'] at ho; cases ho; rw [hd'] at hd; cases hd
theorem Inv.funs (I : Inv X pins σ H s) : s.heap.FunFrames X.base X.outer := by
  have all : ∀ (l : List Env), (∀ b ∈ frs l, b ∈ X.fs) → X.s₀.heap.FunFrames X.base l → s.heap.FunFrames X.base l := by
    intro l
    induction l with
    | nil => intro _ _; trivial
    | cons env r ih =>
      intro hs hl
      obtain ⟨hk, ⟨L, o, hf, hn, ho, hd⟩, hr⟩ := hl
      have hL : L ∈ X.fs := hs L (by unfold frs; rw [List.filterMap_cons, hf]; exact List.mem_cons_self)
      obtain ⟨sl, e⟩ := I.base.slot L o ho (I.ok.frf L hL) hL fun z => I.ok.exfs L z hL
      exact ⟨hk, ⟨L, _, hf, hn, e, hd⟩, ih (fun b hb => hs b (by unfold frs; rw [List.filterMap_cons, hf]; exact List.mem_cons_of_mem _ hb)) hr⟩
  exact all X.outer (fun _ hb => hb) I.ok.funs

/-- the frames that run, for a call -/
theorem Inv.stack (I : Inv X pins σ H s) : s.heap.FunFrames X.base X.stack := by
  rcases I.ok.stk with e | ⟨e, hf⟩
  · rw [e]; exact I.funs
  · rw [e]
    obtain ⟨m, hn, _⟩ := I.loc
    refine .cons (by rw [I.ok.kind]; decide) hf hn ?_ I.funs
    exact Heap.get?_none_of_le (Nat.le_trans I.ok.bsz I.ok.above)
theorem Inv.stkSub (I : Inv X pins σ H s) : ∀ b ∈ frs X.stack, b ∈ X.env.locals :: X.fs := fun b hb => by
  rcases I.ok.stk with e | ⟨e, hf⟩
  · rw [e] at hb; exact List.mem_cons_of_mem _ hb
  · rw [e] at hb
    unfold frs at hb
    rw [List.filterMap_cons, hf] at hb
    exact hb
theorem Inv.stkFree (I : Inv X pins σ H s) : ∀ b ∈ frs X.stack, H b = none := fun b hb => by
  rcases List.mem_cons.mp (I.stkSub b hb) with e | hb
  · rw [e]; exact I.free
  · obtain ⟨_, o, ho, _⟩ := I.ok.funs.mem hb
    exact I.base.free b o ho (I.ok.frf b hb) fun z => I.ok.exfs b z hb

/-- THE STEP: the untracked objects but the frame and the records at ch are kept (the callers' frames up to slots), the frame's map is kept, the new abstract heap is held -/
theorem Inv.step {g' : Array GenState} {t' : Nat} {d' : Drawn} {ch : List Addr} (I : Inv X pins σ H s)
    (hch : ∀ b ∈ ch, (b ∈ X.ex ∨ X.s₀.heap.objs.size ≤ b) ∧ b ≠ X.env.locals ∧ (∀ x c, X.env.cells.lookup x = some c → c ≠ b) ∧ ∀ p ∈ X.pn ++ pins, p.1 ≠ b)
    (keep : ∀ b o, b ≠ X.env.locals → b ∉ X.fs → b ∉ ch → s.heap.get? b = some o → H b = none → h'.get? b = some o)
    (slot : ∀ b o, b ≠ X.env.locals → b ∈ X.fs → b ∉ ch → s.heap.get? b = some o → H b = none → ∃ sl, h'.get? b = some { o with slots := sl }) (free : ∀ b o, b ∉ ch → s.heap.get? b = some o → H b = none → H' b = none)
    (there : ∀ b o, b ∉ ch → s.heap.get? b = some o → ∃ o', h'.get? b = some o')
    (tups : ∀ b xs, H b = some (.tup xs) → H' b = some (.tup xs)) (frzs : ∀ b o u, H b = some (.frz o u) → H' b = some (.frz o u)) (tbls : ∀ b ps, H b = some (.tbl ps) → ∃ more, H' b = some (.tbl (ps ++ more)))
    (ns : ∀ m, s.heap.Ns X.env.locals m → h'.Ns X.env.locals m) (hok : HOk X.prog X.w H' h') (hg : AllBare g') :
    Inv X pins σ H' { s with heap := h', gens := g', drawn := d', toks := t' } := by
  have neL : ∀ b o, X.s₀.heap.get? b = some o → b ≠ X.env.locals := fun b o e => Nat.ne_of_lt (Nat.lt_of_lt_of_le (Heap.lt_size e) I.ok.above)
  have neC : ∀ b o, X.s₀.heap.get? b = some o → b ∉ X.ex → b ∉ ch := fun b o e hx hb => by
    rcases (hch b hb).1 with z | z
    · exact hx z
    · exact absurd (Nat.lt_of_lt_of_le (Heap.lt_size e) z) (Nat.lt_irrefl _)
  have cellK : ∀ x c, X.env.cells.lookup x = some c → ∀ v, s.heap.IsCell c v → h'.IsCell c v := fun x c e v ⟨o, ho, hd⟩ => by
    have nch : c ∉ ch := fun z => (hch c z).2.2.1 x c e rfl
    by_cases hc : c ∈ X.fs
    · obtain ⟨sl, q⟩ := slot c o (I.cne x c e) hc nch ho (I.freeC x c e)
      exact ⟨_, q, hd⟩
    · exact ⟨o, keep c o (I.cne x c e) hc nch ho (I.freeC x c e), hd⟩
  refine ⟨I.ok, I.os, hg, ⟨fun b o e n hb hx => ?_, fun b o e n hb hx => ?_, fun b o e n hx => ?_, fun b o e hx => ?_, fun b xs e => tups b xs (I.base.tups b xs e), fun b o xs e => frzs b o xs (I.base.frzs b o xs e), fun b ps e => ?_⟩, ?_, fun x c e => ?_, ?_, fun x c e => ?_, fun p hp => ?_, hok, I.len⟩
  · exact keep b o (neL b o e) hb (neC b o e hx) (I.base.keep b o e n hb hx) (I.base.free b o e n hx)
  · obtain ⟨sl, e1⟩ := I.base.slot b o e n hb hx
    obtain ⟨sl', e2⟩ := slot b _ (neL b o e) hb (neC b o e hx) e1 (I.base.free b o e n hx)
    exact ⟨sl', e2⟩
  · obtain ⟨o', e1⟩ := I.base.there b o e hx
    exact free b o' (neC b o e hx) e1 (I.base.free b o e n hx)
  · obtain ⟨o', e1⟩ := I.base.there b o e hx
    exact there b o' (neC b o e hx) e1
  · obtain ⟨m1, e1⟩ := I.base.tbls b ps e
    obtain ⟨m2, e2⟩ := tbls b _ e1
    exact ⟨m1 ++ m2, by rw [e2, Array.append_assoc]⟩
  · obtain ⟨m, hn, hl⟩ := I.loc
    refine ⟨m, ns m hn, fun i x v e1 e2 e3 => ?_⟩
    obtain ⟨u, r, l⟩ := hl i x v e1 e2 e3
    refine ⟨u, r, ?_⟩
    rcases l with l | ⟨k, c, e, z⟩
    · exact .inl l
    · exact .inr ⟨k, c, e, cellK x c e _ z⟩
  · obtain ⟨v, z⟩ := I.cell x c e
    exact ⟨v, cellK x c e v z⟩
  · obtain ⟨m, ⟨o, _, _, ho, _⟩, _⟩ := I.loc
    exact free _ o (fun z => (hch _ z).2.1 rfl) ho I.free
  · obtain ⟨v, o, ho, hd⟩ := I.cell x c e
    exact free c o (fun z => (hch c z).2.2.1 x c e rfl) ho (I.freeC x c e)
  · obtain ⟨e, n, ne, nf, d⟩ := I.pin p hp
    have nch : p.1 ∉ ch := fun z => (hch p.1 z).2.2.2 p hp rfl
    exact ⟨keep p.1 p.2 ne nf nch e n, free p.1 p.2 nch e n, ne, nf, d⟩
/-- .. where the frame's own object is kept too -/
theorem Inv.un {t' : Nat} (I : Inv X pins σ H s) (u : Un X.fs [] H H' s.heap h') (hok : HOk X.prog X.w H' h') : Inv X pins σ H' { s with heap := h', toks := t' } := by
  obtain ⟨m, ⟨o, es, ep, ho, r⟩, _⟩ := id I.loc
  obtain ⟨sl, hL⟩ := u.any ho I.free (by simp)
  exact I.step (g' := s.gens) (d' := s.drawn) (ch := []) (fun _ z => nomatch z) (fun b o _ hb _ e n => u.keep b o e n hb (by simp)) (fun b o _ hb _ e n => u.slot b o e n hb (by simp)) (fun b o _ e n => u.free b o e n (by simp)) (fun b o _ e => u.there b o e (by simp)) u.tups u.frzs u.tbls (fun m' hm => by
    obtain ⟨o', es', ep', ho', r'⟩ := hm
    rw [ho] at ho'; cases ho'
    exact ⟨_, es', ep', hL, r'⟩) hok I.bare
/-- behind a call (or a comprehension's block): the slots of this frame may have changed too, the records at ch may have turned -/
theorem Inv.call {g' : Array GenState} {t' : Nat} {d' : Drawn} {ch : List Addr} (I : Inv X pins σ H s) (u : Un (frs X.stack) ch H H' s.heap h') (hok : HOk X.prog X.w H' h') (hg : AllBare g')
    (hch : ∀ b ∈ ch, (b ∈ X.ex ∨ X.s₀.heap.objs.size ≤ b) ∧ b ≠ X.env.locals ∧ (∀ x c, X.env.cells.lookup x = some c → c ≠ b) ∧ ∀ p ∈ X.pn ++ pins, p.1 ≠ b) :
    Inv X pins σ H' { s with heap := h', gens := g', drawn := d', toks := t' } := by
  obtain ⟨m, ⟨o, es, ep, ho, r⟩, _⟩ := id I.loc
  obtain ⟨sl, hL⟩ := u.any ho I.free fun z => (hch _ z).2.1 rfl
  exact I.step (ch := ch) hch (fun b o hL hb hc e n => u.keep b o e n (fun z => (List.mem_cons.mp (I.stkSub b z)).elim hL hb) hc) (fun b o _ _ hc e n => u.any e n hc) (fun b o hc e n => u.free b o e n hc) (fun b o hc e => u.there b o e hc) u.tups u.frzs u.tbls (fun m' hm => by
    obtain ⟨o', es', ep', ho', r'⟩ := hm
    rw [ho] at ho'; cases ho'
    exact ⟨_, es', ep', hL, r'⟩) hok hg
/-- an untracked record of ours (an iterator) has turned -/
theorem Inv.turned {t' : Nat} {it : Addr} (I : Inv X pins σ H s) (k : ∀ b o, b ≠ it → s.heap.get? b = some o → h'.get? b = some o) (hn : H it = none) (hL : it ≠ X.env.locals)
    (h1 : it ∈ X.ex ∨ X.s₀.heap.objs.size ≤ it) (h2 : ∀ x c, X.env.cells.lookup x = some c → c ≠ it) (h3 : ∀ p ∈ X.pn ++ pins, p.1 ≠ it) : Inv X pins σ H { s with heap := h', toks := t' } := by
  have nit : ∀ b u, H b = some u → b ≠ it := fun b u e z => by rw [z, hn] at e; cases e
  refine I.step (g' := s.gens) (d' := s.drawn) (ch := [it]) (fun b hb => ?_) (fun b o _ _ hc e _ => k b o (fun z => hc (by simp [z])) e) (fun b o _ _ hc e _ => ⟨o.slots, k b o (fun z => hc (by simp [z])) e⟩) (fun _ _ _ _ n => n)
    (fun b o hc e => ⟨o, k b o (fun z => hc (by simp [z])) e⟩) (fun _ _ e => e) (fun _ _ _ e => e) (fun b ps e => ⟨#[], by rw [e]; simp⟩) (fun m hm => ?_) (fun b u e => ?_) I.bare
  · have e : b = it := by simpa using hb
    subst e
    exact ⟨h1, hL, h2, h3⟩
  · obtain ⟨o, es, ep, ho, r⟩ := hm
    exact ⟨o, es, ep, k _ o (Ne.symm hL) ho, r⟩
  · refine (I.hok b u e).stay (fun c v hc q => k c v ?_ q) (fun _ q => q) fun _ _ q => q
    rcases hc with z | z
    · rw [z]; exact nit b u e
    · exact nit c _ z
theorem Inv.tok (I : Inv X pins σ H s) (t : Nat) : Inv X pins σ H { s with toks := t } := I.un (h' := s.heap) (t' := t) Un.refl I.hok
/-- all objects kept -/
theorem Inv.kept {t' : Nat} (I : Inv X pins σ H s) (k : ∀ b u, s.heap.get? b = some u → h'.get? b = some u) : Inv X pins σ H { s with heap := h', toks := t' } := I.un (Un.kept k) (I.hok.kept k)
/-- a new object laid and tracked -/
theorem Inv.laid {a : Addr} {o : HO} {t' : Nat} (I : Inv X pins σ H s) (k : ∀ b u, s.heap.get? b = some u → h'.get? b = some u) (hp : s.heap.objs.size ≤ a) (new : ObjOk X.prog X.w (upd H a o) h' a o) :
    Inv X pins σ (upd H a o) { s with heap := h', toks := t' } := I.un (Un.laid k hp (I.hok.fresh hp)) (I.hok.laid k hp new)
/-- an object written -/
theorem Inv.write {x e : Addr} {o : HO} {t' : Nat} (I : Inv X pins σ H s) (mu : Mut (H x)) (he : e = x ∨ H e = some (.own x)) (k : ∀ b u, b ≠ e → s.heap.get? b = some u → h'.get? b = some u) (heo : ∃ u, h'.get? e = some u)
    (new : ObjOk X.prog X.w (upd H x o) h' x o) : Inv X pins σ (upd H x o) { s with heap := h', toks := t' } := I.un (Un.write mu he k heo) (I.hok.write mu he k heo new)
/-- forgetting slots, pins -/
theorem Inv.weak {σ' : List (Option V)} (I : Inv X pins σ H s) (hl : σ'.length = σ.length) (w : ∀ (i : Nat) v, σ'[i]? = some (some v) → σ[i]? = some (some v)) : Inv X pins σ' H s :=
  ⟨I.ok, I.os, I.bare, I.base, let ⟨m, hn, hl'⟩ := I.loc; ⟨m, hn, fun i x v e1 e2 e3 => hl' i x v e1 (w i v e2) e3⟩, I.cell, I.free, I.freeC, I.pin, I.hok, hl.trans I.len⟩
theorem Inv.pins_of {pins' : List (Addr × Obj)} (I : Inv X pins σ H s) (h : ∀ p ∈ pins', s.heap.get? p.1 = some p.2 ∧ H p.1 = none ∧ p.1 ≠ X.env.locals ∧ p.1 ∉ X.fs ∧ ∀ v, p.2.data ≠ .cell v) : Inv X pins' σ H s :=
  ⟨I.ok, I.os, I.bare, I.base, I.loc, I.cell, I.free, I.freeC, fun p hp => (List.mem_append.mp hp).elim (fun z => I.pin p (List.mem_append_left _ z)) (h p), I.hok, I.len⟩

theorem nodup_ix {N : List Str} (hN : N.Nodup) {i j : Nat} {x : Str} (a : N[i]? = some x) (b : N[j]? = some x) : i = j := by
  obtain ⟨h1, e1⟩ := List.getElem?_eq_some_iff.mp a
  obtain ⟨h2, e2⟩ := List.getElem?_eq_some_iff.mp b
  exact (List.getElem_inj hN).mp (e1.trans e2.symm)

/-- a name is stored; what changed -/
theorem store_ok2 {M : Model} {A : Around} {E : Value → Shared → Prop} {i : Nat} {x : Str} {v : V} {u : Value} {Q : Unit → Shared → Prop} (I : Inv X pins σ H s) (hN : X.N.Nodup) (hi : X.N[i]? = some x) (hx : Loc X.env.scope x) (r : RelV v u)
    (h : ∀ s', Inv X pins (σ.set i (some v)) H s' → (∃ a, Heap.SameBut a s.heap s'.heap ∧ (a = X.env.locals ∨ X.env.cells.lookup x = some a)) → Q () s') (hf : X.fn x = true ∨ X.env.scope.names.lookup x = some .local := by first | exact .inl rfl | exact .inr rfl | assumption) : wpAny M A (storeName X.env x u) Q E s := by
  obtain ⟨m, hn, hl⟩ := id I.loc
  have hcls : (X.env.scope.kind == .class || (X.env.scope.kind == .module && X.env.locals != X.env.globals)) = false := by rw [I.ok.kind]; rfl
  have hiσ : i < σ.length := by rw [I.len]; exact (List.getElem?_eq_some_iff.mp hi).1
  have cne := I.cne
  have tracked : ∀ {a : Addr} {h' : Heap}, (∃ o, s.heap.get? a = some o ∧ H a = none) → Heap.SameBut a s.heap h' → HOk X.prog X.w H h' := fun {a h'} ha hs b ob e => by
    obtain ⟨_, _, hfree⟩ := ha
    refine (I.hok b ob e).stay (fun c w' hc q => (hs.2 c ?_).trans q) (fun _ q => q) fun _ _ q => q
    rintro rfl
    rcases hc with rfl | hc
    · rw [hfree] at e; cases e
    · rw [hfree] at hc; cases hc
  rcases hx with hk | hk
  · refine wpAny_storeName_local hk hn (fun h' hn' hs => ?_) hcls
    obtain ⟨oL, _, _, hoL, _⟩ := id hn
    refine h _ ⟨I.ok, I.os, I.bare, ⟨fun b o e n hb hx => ?_, fun b o e n hb hx => ?_, I.base.free, fun b o e hx => ?_, I.base.tups, I.base.frzs, I.base.tbls⟩, ⟨_, hn', fun j y v' e1 e2 e3 => ?_⟩, fun y c e => ?_, I.free, I.freeC, fun p hp => ?_, tracked ⟨oL, hoL, I.free⟩ hs, by simpa using I.len⟩ ⟨_, hs, .inl rfl⟩
    · exact (hs.2 b (Nat.ne_of_lt (Nat.lt_of_lt_of_le (Heap.lt_size e) I.ok.above))).trans (I.base.keep b o e n hb hx)
    · obtain ⟨sl, e1⟩ := I.base.slot b o e n hb hx
      exact ⟨sl, (hs.2 b (Nat.ne_of_lt (Nat.lt_of_lt_of_le (Heap.lt_size e) I.ok.above))).trans e1⟩
    · obtain ⟨o', e1⟩ := I.base.there b o e hx
      exact ⟨o', (hs.2 b (Nat.ne_of_lt (Nat.lt_of_lt_of_le (Heap.lt_size e) I.ok.above))).trans e1⟩
    · by_cases hj : j = i
      · subst hj
        rw [hi] at e1; cases e1
        rw [List.getElem?_set_self hiσ] at e2
        cases e2
        exact ⟨u, r, .inl ⟨hk, by simp⟩⟩
      · rw [List.getElem?_set_ne (Ne.symm hj)] at e2
        obtain ⟨u', r', q⟩ := hl j y v' e1 e2 e3
        refine ⟨u', r', ?_⟩
        rcases q with ⟨k, e⟩ | ⟨k, c, e, z⟩
        · refine .inl ⟨k, ?_⟩
          have : y ≠ x := fun e => hj (nodup_ix hN e1 (e ▸ hi))
          simp [this, e]
        · exact .inr ⟨k, c, e, z.sameBut hs (cne y c e)⟩
    · obtain ⟨w', z⟩ := I.cell y c e
      exact ⟨w', z.sameBut hs (cne y c e)⟩
    · obtain ⟨e, n, ne, nf, d⟩ := I.pin p hp
      exact ⟨(hs.2 p.1 ne).trans e, n, ne, nf, d⟩
  · have hfn : X.fn x = true := by
      rcases hf with z | z
      · exact z
      · rw [z] at hk; cases hk
    obtain ⟨c, hc⟩ := I.ok.has x (.inl hk)
    obtain ⟨w', z⟩ := I.cell x c hc
    refine wpAny_storeName_cell I.ok.kind hk hc z (fun h' hc' hs => ?_)
    obtain ⟨oc, hoc, hocd⟩ := id z
    refine h { s with heap := h' } ⟨I.ok, I.os, I.bare, ⟨fun b o e n hb hx => ?_, fun b o e n hb hx => ?_, I.base.free, fun b o e hx => ?_, I.base.tups, I.base.frzs, I.base.tbls⟩, ⟨m, hn.sameBut hs (Ne.symm (cne x c hc)), fun j y v' e1 e2 e3 => ?_⟩, fun y c' e => ?_, I.free, I.freeC, fun p hp => ?_, tracked ⟨oc, hoc, I.freeC x c hc⟩ hs, by simpa using I.len⟩ ⟨c, hs, .inr hc⟩
    · exact (hs.2 b (Nat.ne_of_lt (Nat.lt_of_lt_of_le (Heap.lt_size e) (I.ok.cab x c hfn hc)))).trans (I.base.keep b o e n hb hx)
    · obtain ⟨sl, e1⟩ := I.base.slot b o e n hb hx
      exact ⟨sl, (hs.2 b (Nat.ne_of_lt (Nat.lt_of_lt_of_le (Heap.lt_size e) (I.ok.cab x c hfn hc)))).trans e1⟩
    · obtain ⟨o', e1⟩ := I.base.there b o e hx
      exact ⟨o', (hs.2 b (Nat.ne_of_lt (Nat.lt_of_lt_of_le (Heap.lt_size e) (I.ok.cab x c hfn hc)))).trans e1⟩
    · by_cases hj : j = i
      · subst hj
        rw [hi] at e1; cases e1
        rw [List.getElem?_set_self hiσ] at e2
        cases e2
        exact ⟨u, r, .inr ⟨.inl hk, c, hc, hc'⟩⟩
      · rw [List.getElem?_set_ne (Ne.symm hj)] at e2
        obtain ⟨u', r', q⟩ := hl j y v' e1 e2 e3
        refine ⟨u', r', ?_⟩
        rcases q with q | ⟨k, c', e, z'⟩
        · exact .inl q
        · refine .inr ⟨k, c', e, z'.sameBut hs ?_⟩
          rintro rfl
          exact hj (nodup_ix hN e1 (I.ok.inj _ _ _ e hc ▸ hi))
    · by_cases hcc : c' = c
      · subst hcc; exact ⟨_, hc'⟩
      · obtain ⟨w2, z2⟩ := I.cell y c' e
        exact ⟨w2, z2.sameBut hs hcc⟩
    · obtain ⟨e, n, ne, nf, d⟩ := I.pin p hp
      refine ⟨(hs.2 p.1 ?_).trans e, n, ne, nf, d⟩
      intro q
      rw [q, hoc] at e
      have q' : oc = p.2 := Option.some.inj e
      exact d w' (by rw [← q']; exact hocd)
theorem store_ok {M : Model} {A : Around} {E : Value → Shared → Prop} {i : Nat} {x : Str} {v : V} {u : Value} {Q : Unit → Shared → Prop} (I : Inv X pins σ H s) (hN : X.N.Nodup) (hi : X.N[i]? = some x) (hx : Loc X.env.scope x) (r : RelV v u)
    (h : ∀ s', Inv X pins (σ.set i (some v)) H s' → Q () s') (hf : X.fn x = true ∨ X.env.scope.names.lookup x = some .local := by first | exact .inl rfl | exact .inr rfl | assumption) : wpAny M A (storeName X.env x u) Q E s :=
  store_ok2 I hN hi hx r (fun s' I' _ => h s' I') hf
/-- behind a call or a block, the state as it is -/
theorem Inv.call' {s' : Shared} {ch : List Addr} (I : Inv X pins σ H s) (ho : s'.os = s.os) (u : Un (frs X.stack) ch H H' s.heap s'.heap) (hok : HOk X.prog X.w H' s'.heap) (hg : AllBare s'.gens)
    (hch : ∀ b ∈ ch, (b ∈ X.ex ∨ X.s₀.heap.objs.size ≤ b) ∧ b ≠ X.env.locals ∧ (∀ x c, X.env.cells.lookup x = some c → c ≠ b) ∧ ∀ p ∈ X.pn ++ pins, p.1 ≠ b) : Inv X pins σ H' s' := by
  obtain ⟨h', g', d', t', o'⟩ := s'
  have e : o' = s.os := ho
  subst e
  exact I.call (g' := g') (t' := t') (d' := d') u hok hg hch
end

/-! ### the judgements -/
/-- an exception: its class, its own dict's address (where it has one), the abstract heap behind it -/
abbrev XK := Value → Option Addr → Hp → Prop
abbrev St := List (Option V)
abbrev VK := V → Hp → Prop
/-- an expression's reading; a test's; an argument list's -/
abbrev TE := St → Hp → VK → Prop
abbrev TT := St → Hp → (Bool → Hp → Prop) → Prop
abbrev TA := St → Hp → (List V → Hp → Prop) → Prop
/-- what is wanted behind a statement -/
structure Ends where
  nx : St → Hp → Prop
  rt : VK
  bk : St → Hp → Prop := fun _ _ => False
  ct : St → Hp → Prop := fun _ _ => False
abbrev TS := Ends → St → Hp → Prop

def EP (X : Cx) (pins : List (Addr × Obj)) (σ : St) (Q : VK) (u : Value) (s' : Shared) : Prop := ∃ v H', Inv X pins σ H' s' ∧ RelV v u ∧ Q v H'
def TP (X : Cx) (pins : List (Addr × Obj)) (σ : St) (Q : Bool → Hp → Prop) (b : Bool) (s' : Shared) : Prop := ∃ H', Inv X pins σ H' s' ∧ Q b H'
def AP (X : Cx) (pins : List (Addr × Obj)) (σ : St) (Q : List V → Hp → Prop) (us : List Value) (s' : Shared) : Prop := ∃ vs H', Inv X pins σ H' s' ∧ Vals vs us ∧ Q vs H'
def SP (X : Cx) (pins : List (Addr × Obj)) (D : Ends) (f : Flow) (s' : Shared) : Prop :=
  match f with
  | .next => ∃ σ' H', Inv X pins σ' H' s' ∧ D.nx σ' H'
  | .brk => ∃ σ' H', Inv X pins σ' H' s' ∧ D.bk σ' H'
  | .cont => ∃ σ' H', Inv X pins σ' H' s' ∧ D.ct σ' H'
  | .ret u => ∃ v σ' H', Inv X pins σ' H' s' ∧ RelV v u ∧ D.rt v H'

def PE (X : Cx) (e : Expr) (t : TE) : Prop :=
  ∀ (pins : List (Addr × Obj)) (s : Shared) (σ : St) (H : Hp) (Q : VK), Inv X pins σ H s → t σ H Q → wpAny (model X.prog X.w) X.A (eval e X.env) (EP X pins σ Q) X.xe s
def PT (X : Cx) (e : Expr) (t : TT) : Prop :=
  ∀ (pins : List (Addr × Obj)) (s : Shared) (σ : St) (H : Hp) (Q : Bool → Hp → Prop), Inv X pins σ H s → t σ H Q → wpAny (model X.prog X.w) X.A (isTrue e X.env (eval e X.env)) (TP X pins σ Q) X.xe s
/-- a test whatever its 'whole' is (and, or) -/
def PW (X : Cx) (e : Expr) (t : TT) : Prop :=
  ∀ (whole : Sem Value) (pins : List (Addr × Obj)) (s : Shared) (σ : St) (H : Hp) (Q : Bool → Hp → Prop), Inv X pins σ H s → t σ H Q → wpAny (model X.prog X.w) X.A (isTrue e X.env whole) (TP X pins σ Q) X.xe s
theorem PW.pt {X : Cx} {e : Expr} {t : TT} (h : PW X e t) : PT X e t := h _
/-- an argument list (no star), from the left -/
def PA (X : Cx) (es : List Expr) (t : TA) : Prop :=
  ∀ (pos : Pos) (pins : List (Addr × Obj)) (s : Shared) (σ : St) (H : Hp) (Q : List V → Hp → Prop), Inv X pins σ H s → t σ H Q → wpAny (model X.prog X.w) X.A (spliced (backTo pos (starEach es X.env))) (AP X pins σ Q) X.xe s
def PS (X : Cx) (st : Stmt) (t : TS) : Prop :=
  ∀ (pins : List (Addr × Obj)) (s : Shared) (σ : St) (H : Hp) (D : Ends), Inv X pins σ H s → t D σ H → wpAny (model X.prog X.w) X.A (exec st X.env) (SP X pins D) X.xe s
def PSs (X : Cx) (st : List Stmt) (t : TS) : Prop :=
  ∀ (pins : List (Addr × Obj)) (s : Shared) (σ : St) (H : Hp) (D : Ends), Inv X pins σ H s → t D σ H → wpAny (model X.prog X.w) X.A (execs st X.env) (SP X pins D) X.xe s
/-- weaken the end -/
theorem thn {α : Type} {t : Sem α} {Q Q' : α → Shared → Prop} {M : Model} {A : Around} {E : Value → Shared → Prop} {s : Shared} (h : wpAny M A t Q E s) (hQ : ∀ a s, Q a s → Q' a s) : wpAny M A t Q' E s := wpAny_mono h hQ fun _ _ x => x
end L2

namespace L2
open PySem PySem.Spec PyProof.Rows
section
variable {X : Cx}


/-! ### names and constants -/
def tVar (i : Nat) : TE := fun σ H Q => ∃ v, σ[i]? = some (some v) ∧ Q v H
def tC (v : V) : TE := fun _ H Q => Q v H
theorem pe_var {i : Nat} {x : Str} {pos : Pos} (hN : X.N[i]? = some x) (hv : Vis X.env.scope x) (hd : (x == ("__debug__" : Str)) = false := by decide) (hcd : (x == ("__classdict__" : Str)) = false := by decide) : PE X (.Name x pos) (tVar i) := by
  intro pins s σ H Q I h
  obtain ⟨v, e, h⟩ := h
  obtain ⟨m, hn, hl⟩ := I.loc
  obtain ⟨u, r, l⟩ := hl i x v hN e hv
  have fin : EP X pins σ Q u s := ⟨v, H, I, r, h⟩
  rcases l with ⟨hk, hm⟩ | ⟨hk, c, hc, hcell⟩
  · exact wpAny_Name (wpAny_loadName_local I.ok.kind hk hn hm fin) hd
  · rcases hk with hk | hk
    · exact wpAny_Name (wpAny_loadName_cell I.ok.kind hk hc hcell fin) hd
    · exact wpAny_Name (wpAny_loadName_free I.ok.kind hk hc hcell fin hcd) hd
theorem pe_int {i j pos} : PE X (.Constant (.int i) j pos) (tC (.int i)) := fun _ _ _ H _ I h => wpAny_Constant_int ⟨.int i, H, I.tok _, ⟨_, rfl⟩, h⟩
theorem pe_bl {b j pos} : PE X (.Constant (.bool b) j pos) (tC (.bl b)) := fun _ _ _ H _ I h => Constant_bool ⟨.bl b, H, I, rfl, h⟩
theorem pe_non {j pos} : PE X (.Constant .none j pos) (tC .non) := fun _ _ _ H _ I h => Constant_none ⟨.non, H, I, rfl, h⟩
theorem pe_str {x j pos} : PE X (.Constant (.str x) j pos) (tC (.str x)) := fun _ _ _ H _ I h => Calls.Constant_str ⟨.str x, H, I.tok _, ⟨_, rfl⟩, h⟩

/-- a global name of the def -/
def Gl (X : Cx) (x : Str) : Prop := X.env.kindOf x = some .globalImplicit
theorem ld_glob {E : Value → Shared → Prop} {pins : List (Addr × Obj)} {s : Shared} {σ : St} {H : Hp} {x : Str} {u : Value} {pos : Pos} {Q : Value → Shared → Prop} (I : Inv X pins σ H s) (hg : Gl X x) (hm : X.mg x = some u) (h : Q u s)
    (hd : (x == ("__debug__" : Str)) = false := by decide) : wpAny (model X.prog X.w) X.A (eval (.Name x pos) X.env) Q E s :=
  Calls.Name_function_global I.ok.kind hg (Calls.loadGlobal_global (by rw [I.ok.glob]; exact I.mod.glob.keeps I.bk) hm h) hd
theorem ld_blt {E : Value → Shared → Prop} {pins : List (Addr × Obj)} {s : Shared} {σ : St} {H : Hp} {x : Str} {u : Value} {pos : Pos} {Q : Value → Shared → Prop} (I : Inv X pins σ H s) (hg : Gl X x) (hm : X.mg x = none) (hv : bootBuiltins x = some u) (h : Q u s)
    (hn : x ≠ "__name__" := by decide) (hd : (x == ("__debug__" : Str)) = false := by decide) : wpAny (model X.prog X.w) X.A (eval (.Name x pos) X.env) Q E s := by
  obtain ⟨mb, h1, h2⟩ := I.mod.blt
  exact Calls.Name_function_global I.ok.kind hg (Calls.loadGlobal_builtin (by rw [I.ok.glob]; exact I.mod.glob.keeps I.bk) hm (by rw [I.ok.blt]; exact h1.keeps I.bk) ((h2 x hn).trans hv) h) hd
theorem pe_bltn {x : Str} {v : V} {u : Value} {pos : Pos} (hg : Gl X x) (hm : X.mg x = none) (hv : bootBuiltins x = some u) (r : RelV v u) (hn : x ≠ "__name__" := by decide) (hd : (x == ("__debug__" : Str)) = false := by decide) : PE X (.Name x pos) (tC v) :=
  fun _ _ _ H _ I h => ld_blt I hg hm hv ⟨v, H, I, r, h⟩ hn hd

/-! ### arithmetic -/
/-- two ints -/
def t2I (ta tb : TE) (k : Int → Int → Hp → Prop) : St → Hp → Prop := fun σ H => ta σ H fun x H1 => tb σ H1 fun y H2 => ∃ i j, x = .int i ∧ y = .int j ∧ k i j H2
def tAdd (ta tb : TE) : TE := fun σ H Q => t2I ta tb (fun i j H2 => Q (.int (i + j)) H2) σ H
def tSub (ta tb : TE) : TE := fun σ H Q => t2I ta tb (fun i j H2 => Q (.int (i - j)) H2) σ H
/-- the left factor below 2^64 -/
def tMul (ta tb : TE) : TE := fun σ H Q => t2I ta tb (fun i j H2 => (-(2 ^ 64) < i ∧ i < 2 ^ 64) ∧ Q (.int (i * j)) H2) σ H
variable {a b : Expr} {ta tb : TE} {pos : Pos}

/-! ### comparisons -/
def PC (X : Cx) (op : CmpOp) (a b : Expr) (t : TE) : Prop :=
  ∀ (pins : List (Addr × Obj)) (s : Shared) (σ : St) (H : Hp) (Q : VK), Inv X pins σ H s → t σ H Q →
    wpAny (model X.prog X.w) X.A (eval a X.env) (fun v s₁ => wpAny (model X.prog X.w) X.A (eval b X.env) (fun u s₂ => wpAny (model X.prog X.w) X.A (compareOp op v u) (EP X pins σ Q) X.xe s₂) X.xe s₁) X.xe s
theorem nobehind (b : Expr) {op : CmpOp} (h : op ≠ .In) (h2 : op ≠ .NotIn) : behindInMarks op b = false := by
  have e1 : (op == CmpOp.In) = false := by cases op <;> first | rfl | exact absurd rfl h
  have e2 : (op == CmpOp.NotIn) = false := by cases op <;> first | rfl | exact absurd rfl h2
  cases b <;> simp [behindInMarks, e1, e2]
def tCmp (p : Int → Int → Bool) (ta tb : TE) : TE := fun σ H Q => t2I ta tb (fun i j H2 => Q (.bl (p i j)) H2) σ H
abbrev tLt : TE → TE → TE := tCmp fun i j => decide (i < j)
abbrev tLe : TE → TE → TE := tCmp fun i j => decide (i ≤ j)
abbrev tGt : TE → TE → TE := tCmp fun i j => decide (j < i)
abbrev tGe : TE → TE → TE := tCmp fun i j => decide (j ≤ i)
abbrev tEqI : TE → TE → TE := tCmp fun i j => decide (i = j)
abbrev tNeI : TE → TE → TE := tCmp fun i j => !decide (i = j)
/-- is None -/
def tIsN (ta : TE) : TE := fun σ H Q => ta σ H fun x H1 => Q (.bl (decide (x = .non))) H1
def tNotN (ta : TE) : TE := fun σ H Q => ta σ H fun x H1 => Q (.bl (!decide (x = .non))) H1
theorem RelV.none_iff {x : V} {v : Value} (r : RelV x v) : (v == Value.none) = decide (x = .non) := by
  cases x with
  | non => cases r; rfl
  | bl _ => cases r; rfl
  | int _ => obtain ⟨t, rfl⟩ := r; rfl
  | str _ => obtain ⟨t, rfl⟩ := r; rfl
  | byt _ => obtain ⟨t, rfl⟩ := r; rfl
  | flt _ => obtain ⟨t, rfl⟩ := r; rfl
  | ref _ => cases r; rfl
  | ty _ => cases r; rfl
theorem pc_isN {j pos'} (ha : PE X a ta) : PC X .Is a (.Constant .none j pos') (tIsN ta) := by
  intro pins s σ H Q I h
  refine thn (ha pins s σ H _ I h) fun v s1 ⟨x, H1, I1, r1, q1⟩ => ?_
  exact Constant_none (is_none_gen ⟨.bl _, H1, I1, by rw [r1.none_iff]; rfl, q1⟩)
theorem pc_notN {j pos'} (ha : PE X a ta) : PC X .IsNot a (.Constant .none j pos') (tNotN ta) := by
  intro pins s σ H Q I h
  refine thn (ha pins s σ H _ I h) fun v s1 ⟨x, H1, I1, r1, q1⟩ => ?_
  exact Constant_none (isnot_none_gen ⟨.bl _, H1, I1, by rw [r1.none_iff]; rfl, q1⟩)
/-- a comparison as a value, as a test -/
def tB (t : TE) : TT := fun σ H Q => t σ H fun x H1 => ∃ c, x = .bl c ∧ Q c H1
theorem pe_cmp {op : CmpOp} {t : TE} (h : PC X op a b t) (h1 : behindInMarks op b = false := by first | exact nobehind _ (by decide) (by decide) | rfl) : PE X (.Compare a [op] [b] pos) t := fun pins s σ H Q I hw => wpAny_Compare1 (h pins s σ H Q I hw) h1
theorem pt_cmp {op : CmpOp} {t : TE} (h : PC X op a b t) (h1 : behindInMarks op b = false := by first | exact nobehind _ (by decide) (by decide) | rfl) : PT X (.Compare a [op] [b] pos) (tB t) := by
  intro pins s σ H Q I hw
  refine wpAny_isTrue_Compare1 (thn (h pins s σ H _ I hw) fun v s1 h1 => thn h1 fun u s2 h2 => thn h2 fun c s3 ⟨x, H1, I1, r1, q1⟩ => ?_) h1
  obtain ⟨d, rfl, q⟩ := q1
  cases r1
  exact wpAny_truthy_bool ⟨H1, I1, q⟩
/-- an expression whose value is a bool, as a test -/
theorem pt_val {e : Expr} {t : TE} (h : PE X e t) (he : ∀ whole, isTrue e X.env whole = (do let v ← whole; standAt e.pos; holding [v] (truthy v)) := by intro _; rfl) : PT X e (tB t) := by
  intro pins s σ H Q I hw
  refine isTrue_plain (thn (h pins s σ H _ I hw) fun v s1 ⟨x, H1, I1, r1, q1⟩ => ?_) (he _)
  obtain ⟨d, rfl, q⟩ := q1
  cases r1
  exact wpAny_truthy_bool ⟨H1, I1, q⟩

/-! ### and, or, not -/
variable {tA tB' : TT} {rest : List Expr}
def tAnd (t u : TT) : TT := fun σ H Q => t σ H fun c H1 => if c = true then u σ H1 Q else Q false H1
def tOr (t u : TT) : TT := fun σ H Q => t σ H fun c H1 => if c = true then Q true H1 else u σ H1 Q
def tNot (t : TT) : TT := fun σ H Q => t σ H fun c H1 => Q (!c) H1
theorem pw_and1 (ha : PT X a tA) : PW X (.BoolOp .And [a] pos) tA := by
  intro wh pins s σ H Q I h
  refine isTrue_and (thn (ha pins s σ H Q I h) fun c s1 e => ?_)
  cases c with
  | true => exact isTrue_and_nil e
  | false => exact e
theorem pw_or1 (ha : PT X a tA) : PW X (.BoolOp .Or [a] pos) tA := by
  intro wh pins s σ H Q I h
  refine isTrue_or (thn (ha pins s σ H Q I h) fun c s1 e => ?_)
  cases c with
  | false => exact isTrue_or_nil e
  | true => exact e
theorem pw_and (ha : PT X a tA) (hb : PW X (.BoolOp .And (b :: rest) pos) tB') : PW X (.BoolOp .And (a :: b :: rest) pos) (tAnd tA tB') := by
  intro wh pins s σ H Q I h
  refine isTrue_and (thn (ha pins s σ H _ I h) fun c s1 ⟨H1, I1, q1⟩ => ?_)
  cases c with
  | true => exact hb wh pins s1 σ H1 Q I1 q1
  | false => exact ⟨H1, I1, q1⟩
theorem pw_or (ha : PT X a tA) (hb : PW X (.BoolOp .Or (b :: rest) pos) tB') : PW X (.BoolOp .Or (a :: b :: rest) pos) (tOr tA tB') := by
  intro wh pins s σ H Q I h
  refine isTrue_or (thn (ha pins s σ H _ I h) fun c s1 ⟨H1, I1, q1⟩ => ?_)
  cases c with
  | true => exact ⟨H1, I1, q1⟩
  | false => exact hb wh pins s1 σ H1 Q I1 q1
theorem pt_not (ha : PT X a tA) : PT X (.UnaryOp .Not a pos) (tNot tA) := by
  intro pins s σ H Q I h
  exact isTrue_not (ha pins s σ H (fun c H1 => Q (!c) H1) I h)
/-- .. as values (bools) -/
def tAndV (ta tb : TE) : TE := fun σ H Q => ta σ H fun x H1 => ∃ c, x = .bl c ∧ if c = true then tb σ H1 Q else Q (.bl false) H1
def tOrV (ta tb : TE) : TE := fun σ H Q => ta σ H fun x H1 => ∃ c, x = .bl c ∧ if c = true then Q (.bl true) H1 else tb σ H1 Q
def tNotV (ta : TE) : TE := fun σ H Q => ta σ H fun x H1 => ∃ c, x = .bl c ∧ Q (.bl (!c)) H1
/-- a if t else b -/
def tIf (t : TT) (ta tb : TE) : TE := fun σ H Q => t σ H fun c H1 => if c = true then ta σ H1 Q else tb σ H1 Q
theorem pe_ifExp {c : Expr} (hc : PT X c tA) (ha : PE X a ta) (hb : PE X b tb) : PE X (.IfExp c a b pos) (tIf tA ta tb) := by
  intro pins s σ H Q I h
  refine wpAny_IfExp (thn (hc pins s σ H _ I h) fun d s1 ⟨H1, I1, q1⟩ => ?_)
  cases d with
  | true => exact ha pins s1 σ H1 Q I1 q1
  | false => exact hb pins s1 σ H1 Q I1 q1
end
end L2

namespace L2
open PySem PySem.Spec PyProof.Rows

/-! ### a list, a tuple that is read: tracked, frozen, or an object of the module -/
def SqL (K : PySem.W.Frag) (H : Hp) (a : Addr) (xs : List V) : Prop :=
  Rd H a (.lst xs) ∨
    ∃ (o : Obj) (its : Array Value) (n : Nat), K.lookup a = some o ∧ o.cls = .type "list" ∧ o.dict = none ∧ o.data = .seq its n ∧ its.size ≤ sizeLine ∧ Vals xs its.toList
def SqT (K : PySem.W.Frag) (H : Hp) (a : Addr) (xs : List V) : Prop :=
  Rd H a (.tup xs) ∨
    ∃ (o : Obj) (its : Array Value) (n : Nat), K.lookup a = some o ∧ o.cls = .type "tuple" ∧ o.data = .seq its n ∧ its.size ≤ sizeLine ∧ Vals xs its.toList
def absV : Value → Option V
  | .none => some .non
  | .bool b => some (.bl b)
  | .int i _ => some (.int i)
  | .str x _ => some (.str x)
  | .bytes b _ => some (.byt b)
  | .float b _ => some (.flt b)
  | .ref a => some (.ref a)
  | .type n => some (.ty n)
  | _ => none
theorem RelV.abs {x : V} {u : Value} (r : RelV x u) : absV u = some x := by
  cases x with
  | non => cases r; rfl
  | bl _ => cases r; rfl
  | int _ => obtain ⟨t, rfl⟩ := r; rfl
  | str _ => obtain ⟨t, rfl⟩ := r; rfl
  | byt _ => obtain ⟨t, rfl⟩ := r; rfl
  | flt _ => obtain ⟨t, rfl⟩ := r; rfl
  | ref _ => cases r; rfl
  | ty _ => cases r; rfl
theorem RelV.inj {x y : V} {u : Value} (r : RelV x u) (q : RelV y u) : x = y := Option.some.inj (r.abs.symm.trans q.abs)
theorem Vals.inj : ∀ {xs ys : List V} {us : List Value}, Vals xs us → Vals ys us → xs = ys
  | _, _, _, .nil, .nil => rfl
  | _, _, _, .cons r t, .cons r' t' => by rw [r.inj r', Vals.inj t t']
section
variable {X : Cx} {pins : List (Addr × Obj)} {σ : St} {H : Hp} {s : Shared} {a : Addr} {xs ys : List V}
theorem SqL.of {K : PySem.W.Frag} (h : H a = some (.lst xs)) : SqL K H a xs := .inl (.inl h)
theorem SqT.of {K : PySem.W.Frag} (h : H a = some (.tup xs)) : SqT K H a xs := .inl (.inl h)
theorem Inv.list (I : Inv X pins σ H s) (h : SqL X.K H a xs) : ∃ its : List Value, Vals xs its ∧ PlainL s.heap a its.toArray ∧ xs.length ≤ sizeLine := by
  rcases h with h | ⟨o, its, n, hk, hc, hd, hs, hz, r⟩
  · obtain ⟨z, its, n, r, e⟩ := h.ok I.hok
    exact ⟨its, r, ⟨_, n, e, rfl, rfl, rfl⟩, z⟩
  · refine ⟨its.toList, r, ⟨o, n, I.kIn a o hk, hc, hd, by simpa using hs⟩, ?_⟩
    have e := r.length
    simp only [Array.length_toList] at e
    omega
theorem Inv.tuple (I : Inv X pins σ H s) (h : SqT X.K H a xs) : ∃ its : List Value, Vals xs its ∧ IsTup s.heap a its.toArray ∧ xs.length ≤ sizeLine := by
  rcases h with h | ⟨o, its, n, hk, hc, hs, hz, r⟩
  · obtain ⟨z, its, r, p⟩ := h.ok I.hok
    exact ⟨its, r, p, z⟩
  · refine ⟨its.toList, r, ⟨o, I.kIn a o hk, hc, n, by simpa using hs⟩, ?_⟩
    have e := r.length
    simp only [Array.length_toList] at e
    omega
theorem Inv.list_inj (I : Inv X pins σ H s) (h : SqL X.K H a xs) (h' : SqL X.K H a ys) : xs = ys := by
  obtain ⟨its, r, ⟨o, n, e, _, _, d⟩, _⟩ := I.list h
  obtain ⟨its', r', ⟨o', n', e', _, _, d'⟩, _⟩ := I.list h'
  rw [e] at e'; cases e'
  rw [d] at d'
  injection d' with d1 _
  have : its = its' := by simpa using congrArg Array.toList d1
  subst this
  exact r.inj r'
theorem Inv.tuple_inj (I : Inv X pins σ H s) (h : SqT X.K H a xs) (h' : SqT X.K H a ys) : xs = ys := by
  obtain ⟨its, r, ⟨o, e, _, n, d⟩, _⟩ := I.tuple h
  obtain ⟨its', r', ⟨o', e', _, n', d'⟩, _⟩ := I.tuple h'
  rw [e] at e'; cases e'
  rw [d] at d'
  injection d' with d1 _
  have : its = its' := by simpa using congrArg Array.toList d1
  subst this
  exact r.inj r'
end

/-! ### another wish about exceptions -/
abbrev Cx.wish (X : Cx) (E : Value → Shared → Prop) : Cx := { X with xe := E }
/-- no exception leaves -/
abbrev Cx.nox (X : Cx) : Cx := X.wish fun _ _ => False
theorem Cx.Ok.wish {X : Cx} (ok : X.Ok) (E : Value → Shared → Prop) : (X.wish E).Ok :=
  ⟨ok.mod, ok.kind, ok.glob, ok.blt, ok.above, ok.inj, ok.has, ok.cab, ok.hd, ok.frames, ok.stk, ok.exf, ok.bs, ok.bsz, ok.noex, ok.exfs, ok.funs, ok.frf⟩
theorem Cx.Ok.unwish {X : Cx} {E : Value → Shared → Prop} (ok : (X.wish E).Ok) : X.Ok :=
  ⟨ok.mod, ok.kind, ok.glob, ok.blt, ok.above, ok.inj, ok.has, ok.cab, ok.hd, ok.frames, ok.stk, ok.exf, ok.bs, ok.bsz, ok.noex, ok.exfs, ok.funs, ok.frf⟩
section
variable {X : Cx} {pins : List (Addr × Obj)} {σ : St} {H : Hp} {s : Shared} {E : Value → Shared → Prop}
theorem Inv.wish (I : Inv X pins σ H s) (E : Value → Shared → Prop) : Inv (X.wish E) pins σ H s := ⟨I.ok.wish E, I.os, I.bare, I.base, I.loc, I.cell, I.free, I.freeC, I.pin, I.hok, I.len⟩
theorem Inv.unwish (I : Inv (X.wish E) pins σ H s) : Inv X pins σ H s := ⟨I.ok.unwish, I.os, I.bare, I.base, I.loc, I.cell, I.free, I.freeC, I.pin, I.hok, I.len⟩
theorem SP.unwish {D : Ends} {f : Flow} {s' : Shared} (h : SP (X.wish E) pins D f s') : SP X pins D f s' := by
  cases f with
  | next => obtain ⟨σ', H', I, q⟩ := h; exact ⟨σ', H', I.unwish, q⟩
  | brk => obtain ⟨σ', H', I, q⟩ := h; exact ⟨σ', H', I.unwish, q⟩
  | cont => obtain ⟨σ', H', I, q⟩ := h; exact ⟨σ', H', I.unwish, q⟩
  | ret u => obtain ⟨v, σ', H', I, r, q⟩ := h; exact ⟨v, σ', H', I.unwish, r, q⟩
theorem PSs.nox {st : List Stmt} {t : TS} (h : PSs X.nox st t) : PSs X st t := fun pins s σ H D I hw =>
  wpAny_mono (h pins s σ H D (I.wish _) hw) (fun _ _ q => q.unwish) fun _ _ z => False.elim z
end

/-! ### blocks and small statements -/
section
variable {X : Cx} {st : Stmt} {rest : List Stmt} {t u : TS} {e : Expr} {te : TE} {pos : Pos}
def tNext : TS := fun D σ H => D.nx σ H
def tSeq (t u : TS) : TS := fun D σ H => t { D with nx := u D } σ H
theorem pss_nil : PSs X [] tNext := fun _ _ σ H _ I h => wpAny_execs_nil ⟨σ, H, I, h⟩
theorem pss_cons (h1 : PS X st t) (h2 : PSs X rest u) : PSs X (st :: rest) (tSeq t u) := by
  intro pins s σ H D I h
  refine wpAny_execs_cons (thn (h1 pins s σ H { D with nx := u D } I h) fun f s1 q => ?_)
  cases f with
  | next =>
    obtain ⟨σ', H', I', q⟩ := q
    exact h2 pins s1 σ' H' D I' q
  | ret v => exact q
  | brk => exact q
  | cont => exact q
theorem pss_one (h1 : PS X st t) : PSs X [st] t := by
  intro pins s σ H D I h
  refine wpAny_execs_cons (thn (h1 pins s σ H D I h) fun f s1 q => ?_)
  cases f with
  | next => exact wpAny_execs_nil q
  | ret v => exact q
  | brk => exact q
  | cont => exact q
def tBreak : TS := fun D σ H => D.bk σ H
def tCont : TS := fun D σ H => D.ct σ H
/-- in a def's body nothing is shown -/
theorem Inv.quiet {pins : List (Addr × Obj)} {σ : St} {H : Hp} {s : Shared} (I : Inv X pins σ H s) : interactive X.env = false := by simp [interactive, I.ok.kind]
/-- an expression whose value is dropped -/
def tDrop (te : TE) : TS := fun D σ H => te σ H fun _ H1 => D.nx σ H1
theorem ps_expr (he : PE X e te) (hs : swapsWith e none pos.line X.env = pure false := by rfl) : PS X (.Expr e pos) (tDrop te) := by
  intro pins s σ H D I h
  exact wpAny_Expr_any (thn (he pins s σ H _ I h) fun v s1 ⟨x, H1, I1, r1, q1⟩ => ⟨σ, H1, I1, q1⟩) I.quiet hs
def tRet (te : TE) : TS := fun D σ H => te σ H D.rt
theorem ps_ret (he : PE X e te) : PS X (.Return (some e) pos) (tRet te) := by
  intro pins s σ H D I h
  exact wpAny_Return_some (thn (he pins s σ H _ I h) fun v s1 ⟨x, H1, I1, r1, q1⟩ => ⟨x, σ, H1, I1, r1, q1⟩)
def tRetN : TS := fun D _ H => D.rt .non H
def tIfS (c : TT) (t u : TS) : TS := fun D σ H => c σ H fun b H1 => if b = true then t D σ H1 else u D σ H1
theorem ps_if {c : Expr} {a b : List Stmt} {tc : TT} (hc : PT X c tc) (ha : PSs X a t) (hb : PSs X b u) : PS X (.If c a b pos) (tIfS tc t u) := by
  intro pins s σ H D I h
  refine wpAny_If (thn (hc pins s σ H _ I h) fun d s1 ⟨H1, I1, q1⟩ => ?_)
  cases d with
  | true => exact ha pins s1 σ H1 D I1 q1
  | false => exact hb pins s1 σ H1 D I1 q1
/-- code that the proof never comes to -/
def tNever : TS := fun _ _ _ => False
end

/-! ### targets -/
abbrev TG := V → St → Hp → (St → Hp → Prop) → Prop
abbrev TGs := List V → St → Hp → (St → Hp → Prop) → Prop
def PG (X : Cx) (target : Expr) (t : TG) : Prop :=
  ∀ (pins : List (Addr × Obj)) (s : Shared) (σ : St) (H : Hp) (v : V) (u : Value) (Q : St → Hp → Prop), Inv X pins σ H s → RelV v u → t v σ H Q →
    wpAny (model X.prog X.w) X.A (assign target X.env u) (fun _ s' => ∃ σ' H', Inv X pins σ' H' s' ∧ Q σ' H') X.xe s
/-- several targets, one after another -/
def PGs (X : Cx) (ts : List Expr) (t : TGs) : Prop :=
  ∀ (pins : List (Addr × Obj)) (s : Shared) (σ : St) (H : Hp) (vs : List V) (us : List Value) (Q : St → Hp → Prop), Inv X pins σ H s → Vals vs us → t vs σ H Q →
    wpAny (model X.prog X.w) X.A (assignInOrder ((assignEach ts X.env).map (·.2)) us) (fun _ s' => ∃ σ' H', Inv X pins σ' H' s' ∧ Q σ' H') X.xe s
/-- o[i] = v, by values -/
abbrev TSet := V → V → V → Hp → (Hp → Prop) → Prop
def PSet (X : Cx) (t : TSet) : Prop :=
  ∀ (pins : List (Addr × Obj)) (s : Shared) (σ : St) (H : Hp) (o i v : V) (ov iv u : Value) (Q : Hp → Prop), Inv X pins σ H s → RelV o ov → RelV i iv → RelV v u → t o i v H Q →
    wpAny (model X.prog X.w) X.A (setItem ov iv u) (fun _ s' => ∃ H', Inv X pins σ H' s' ∧ Q H') X.xe s
/-- a op= b, by values -/
abbrev TIp := V → V → Hp → VK → Prop
def PIp (X : Cx) (op : Operator) (t : TIp) : Prop :=
  ∀ (pins : List (Addr × Obj)) (s : Shared) (σ : St) (H : Hp) (x y : V) (v u : Value) (Q : VK), Inv X pins σ H s → RelV x v → RelV y u → t x y H Q →
    wpAny (model X.prog X.w) X.A (inplaceOp op v u) (EP X pins σ Q) X.xe s
section
variable {X : Cx} {pos : Pos}
def gName (i : Nat) : TG := fun v σ H Q => Q (σ.set i (some v)) H
theorem pg_name {i : Nat} {x : Str} (hN : X.N.Nodup) (hi : X.N[i]? = some x) (hx : Loc X.env.scope x) (hf : X.fn x = true ∨ X.env.scope.names.lookup x = some .local := by first | exact .inl rfl | exact .inr rfl | assumption) : PG X (.Name x pos) (gName i) := by
  intro pins s σ H v u Q I r h
  exact wpAny_assign_Name (store_ok I hN hi hx r (fun s' I' => ⟨_, H, I', h⟩) hf)
def gNil : TGs := fun vs σ H Q => vs = [] ∧ Q σ H
def gCons (t : TG) (u : TGs) : TGs := fun vs σ H Q => ∃ v r, vs = v :: r ∧ t v σ H fun σ' H' => u r σ' H' Q
theorem pgs_nil : PGs X [] gNil := by
  intro pins s σ H vs us Q I r h
  obtain ⟨e, h⟩ := h
  subst e
  cases r
  exact assignInOrder_nil ⟨σ, H, I, h⟩
theorem pgs_cons {e : Expr} {es : List Expr} {t : TG} {u : TGs} (h1 : PG X e t) (h2 : PGs X es u)
    (hs : (assignEach (e :: es) X.env).map (·.2) = assign e X.env :: (assignEach es X.env).map (·.2) := by rfl) : PGs X (e :: es) (gCons t u) := by
  intro pins s σ H vs us Q I r h
  obtain ⟨v, vr, e1, h⟩ := h
  subst e1
  cases r with
  | cons r rr =>
    rw [hs]
    refine assignInOrder_cons (thn (h1 pins s σ H _ _ _ I r h) fun _ s1 ⟨σ1, H1, I1, q1⟩ => ?_)
    exact h2 pins s1 σ1 H1 _ _ Q I1 rr q1
/-- (a, b, ..) = a tuple of that length -/
def gTup (K : PySem.W.Frag) (n : Nat) (t : TGs) : TG := fun v σ H Q => ∃ a xs, v = .ref a ∧ SqT K H a xs ∧ xs.length = n ∧ t xs σ H Q
theorem pg_tup {es : List Expr} {k : Nat} {t : TGs} {n : Nat} (hc : X.calm = true) (h : PGs X es t)
    (hn : (assignEach es X.env).length = n := by rfl) (hst : (assignEach es X.env).findIdx? (·.1) = none := by rfl) : PG X (.Tuple es k pos) (gTup X.K n t) := by
  intro pins s σ H v u Q I r hw
  obtain ⟨a, xs, e1, hq, hl, hw⟩ := hw
  subst e1
  cases r
  obtain ⟨its, rv, ht, hz⟩ := I.tuple hq
  refine assign_Tuple_tuple (I.ok.hd hc) ht (by simp [hn, ← hl, rv.length]) hst fun h' hx => ?_
  have I1 : Inv X pins σ H { s with heap := h' } := I.kept (t' := s.toks) fun b o e => hx b o (Nat.ne_of_lt (Heap.lt_size e)) e
  exact h pins _ σ H xs _ Q I1 (by simpa using rv) hw
/-- o[i] = .. -/
def gSub (to ti : TE) (t : TSet) : TG := fun v σ H Q => to σ H fun o H1 => ti σ H1 fun i H2 => t o i v H2 fun H3 => Q σ H3
theorem pg_sub {o i : Expr} {to ti : TE} {t : TSet} (ho : PE X o to) (hi : PE X i ti) (hs : PSet X t)
    (ha : ∀ v, assign (.Subscript o i pos) X.env v = (do
      let ov ← holding [v] (eval o X.env)
      let iv ← holding [v, ov] (eval i X.env)
      standAt pos
      holding [v, ov, iv] (setItem ov iv v)
      release [v, ov, iv] []) := by intro _; rfl) : PG X (.Subscript o i pos) (gSub to ti t) := by
  intro pins s σ H v u Q I r h
  rw [ha]
  refine wpAny_bind (wpAny_holding (thn (ho pins s σ H _ I h) fun ov s1 ⟨x, H1, I1, r1, q1⟩ => ?_))
  refine wpAny_bind (wpAny_holding (thn (hi pins s1 σ H1 _ I1 q1) fun iv s2 ⟨y, H2, I2, r2, q2⟩ => ?_))
  refine wpAny_bind (wpAny_standAt (wpAny_bind (wpAny_holding (thn (hs pins s2 σ H2 x y v ov iv u _ I2 r1 r2 r q2) fun _ s3 ⟨H3, I3, q3⟩ => ?_))))
  exact wpAny_release ⟨σ, H3, I3, q3⟩
/-- target = value -/
def tAsg (te : TE) (g : TG) : TS := fun D σ H => te σ H fun x H1 => g x σ H1 D.nx
theorem ps_asg {tg e : Expr} {te : TE} {g : TG} (he : PE X e te) (hg : PG X tg g) (hs : swapsWithSole [tg] e pos.line X.env = pure false := by rfl) (hw : swappedStores [tg] e X.env = pure none := by rfl)
    (h1 : (assignEach [tg] X.env).map (·.2) = [assign tg X.env] := by rfl) : PS X (.Assign [tg] e pos) (tAsg te g) := by
  intro pins s σ H D I h
  refine wpAny_Assign_stores (thn (he pins s σ H _ I h) fun v s1 ⟨x, H1, I1, r1, q1⟩ => ?_) hs hw
  rw [h1]
  exact thn (hg pins s1 σ H1 x v _ I1 r1 q1) fun _ s2 q => q
/-- name = value -/
theorem ps_set {i : Nat} {x : Str} {e : Expr} {te : TE} {pos' : Pos} (hN : X.N.Nodup) (hi : X.N[i]? = some x) (hx : Loc X.env.scope x) (he : PE X e te) (hs : swapsWith e (some (.Name x pos')) pos.line X.env = pure false := by rfl) (hf : X.fn x = true ∨ X.env.scope.names.lookup x = some .local := by first | exact .inl rfl | exact .inr rfl | assumption) :
    PS X (.Assign [.Name x pos'] e pos) (tAsg te (gName i)) := by
  intro pins s σ H D I h
  refine wpAny_Assign_Name (thn (he pins s σ H _ I h) fun v s1 ⟨y, H1, I1, r1, q1⟩ => ?_) hs
  exact store_ok I1 hN hi hx r1 (fun s2 I2 => ⟨_, H1, I2, q1⟩) hf
/-- a, b = x, y with plain local names: stored from the right; the pair itself is not tracked (the opening rows as in PyProof/Rows/TupAssign.lean:23) -/
def tPar (i j : Nat) (ta : TA) : TS := fun D σ H => ta σ H fun vs H1 => ∃ v w, vs = [v, w] ∧ D.nx ((σ.set i (some v)).set j (some w)) H1
/-- name op= e -/
def tAug (i : Nat) (te : TE) (ti : TIp) : TS := fun D σ H => ∃ x, σ[i]? = some (some x) ∧ te σ H fun y H1 => ti x y H1 fun z H2 => D.nx (σ.set i (some z)) H2
/-- o[i] op= e -/
def tAugS (to ti te : TE) (tget : V → V → Hp → VK → Prop) (tip : TIp) (tset : TSet) : TS := fun D σ H => to σ H fun o H1 => ti σ H1 fun i H2 => tget o i H2 fun x H3 => te σ H3 fun y H4 => tip x y H4 fun z H5 => tset o i z H5 fun H6 => D.nx σ H6
/-- o[i], by values -/
def PGet (X : Cx) (t : V → V → Hp → VK → Prop) : Prop :=
  ∀ (pins : List (Addr × Obj)) (s : Shared) (σ : St) (H : Hp) (o i : V) (ov iv : Value) (Q : VK), Inv X pins σ H s → RelV o ov → RelV i iv → t o i H Q →
    wpAny (model X.prog X.w) X.A (getItem ov iv) (EP X pins σ Q) X.xe s
/-- ints -/
def ipI (f : Int → Int → Int) : TIp := fun x y H Q => ∃ i j, x = .int i ∧ y = .int j ∧ Q (.int (f i j)) H
end

/-! ### while -/
section
variable {X : Cx} {pos : Pos}
/-- the invariant W with its measure -/
def tWhile (c : TT) (tb : TS) : TS := fun D σ H => ∃ W : Nat → St → Hp → Prop, (∃ m, W m σ H) ∧ ∀ m σ H, W m σ H →
  c σ H fun b H1 => if b = true then ∃ N : St → Hp → Prop, (∀ σ' H', N σ' H' → ∃ m', m' < m ∧ W m' σ' H') ∧ tb { D with nx := N, ct := N, bk := D.nx } σ H1 else D.nx σ H1
end

/-! ### what a loop or a comprehension walks -/
/-- at turn i: it yields x (the heap may grow), or it stops -/
structure It where
  go : Nat → Hp → Prop
  yld : Nat → Hp → V → Hp → Prop
  stop : Nat → Hp → Prop
/-- the iterator's own objects may turn: they are not the frame's, not pinned, younger than the entry (or a comprehension's own) -/
def FpOk (X : Cx) (pins : List (Addr × Obj)) (H : Hp) (b : Addr) : Prop :=
  H b = none ∧ b ≠ X.env.locals ∧ b ∉ X.fs ∧ (b ∈ X.ex ∨ X.s₀.heap.objs.size ≤ b) ∧ (∀ x c, X.env.cells.lookup x = some c → c ≠ b) ∧ ∀ p ∈ X.pn ++ pins, p.1 ≠ b
theorem Inv.fpOk {X : Cx} {pins : List (Addr × Obj)} {σ : St} {H H' : Hp} {s : Shared} {b : Addr} (I : Inv X pins σ H s) (hb : s.heap.objs.size ≤ b) (hn : H' b = none) : FpOk X pins H' b := by
  refine ⟨hn, Nat.ne_of_gt (Nat.lt_of_lt_of_le I.lt hb), I.nofs hb, .inr (Nat.le_trans I.sz hb), fun x c e z => ?_, fun p hp z => ?_⟩
  · obtain ⟨v, q⟩ := I.cell x c e
    exact absurd (Nat.lt_of_lt_of_le q.lt (by rw [z]; exact hb)) (Nat.lt_irrefl _)
  · exact absurd (Nat.lt_of_lt_of_le (Heap.lt_size (I.pin p hp).1) (by rw [z]; exact hb)) (Nat.lt_irrefl _)
structure Turn (P : Program) (w : World) (K : PySem.W.Frag) (tg : Expr) (J : It) (fp : List Addr) (it : Addr) (tn : Nat → Heap → Prop) : Prop where
  mem : it ∈ fp
  obj : ∀ i h, tn i h → ∀ b ∈ fp, ∃ o, h.get? b = some o ∧ ∀ v, o.data ≠ .cell v
  keep : ∀ i h h', tn i h → (∀ b ∈ fp, ∀ o, h.get? b = some o → h'.get? b = some o) → tn i h'
  item : ∀ (X : Cx), X.prog = P → X.w = w → X.K = K → X.calm = true → ∀ (i : Nat) (pins : List (Addr × Obj)) (s : Shared) (σ : St) (H : Hp) (E : Value → Shared → Prop), Inv X pins σ H s → (∀ b ∈ fp, FpOk X pins H b) → tn i s.heap → J.go i H →
    wpAny (model P w) X.A (pyNext (.ref it)) (fun r s1 => ∃ u, r = some u ∧
      wpAny (model P w) X.A (letOwnedTupleGo tg (.ref it) u) (fun _ s2 => ∃ x H', Inv X pins σ H' s2 ∧ RelV x u ∧ J.yld i H x H' ∧ tn (i + 1) s2.heap ∧ ∀ b ∈ fp, H' b = none) E s1) E s
  done : ∀ (X : Cx), X.prog = P → X.w = w → X.K = K → X.calm = true → ∀ (i : Nat) (pins : List (Addr × Obj)) (s : Shared) (σ : St) (H : Hp) (E : Value → Shared → Prop), Inv X pins σ H s → (∀ b ∈ fp, FpOk X pins H b) → tn i s.heap → J.stop i H →
    wpAny (model P w) X.A (pyNext (.ref it)) (fun r s1 => r = none ∧ Inv X pins σ H s1) E s
  self : ∀ (A : Around) (i : Nat) (s : Shared) (Q : Value → Shared → Prop) (E : Value → Shared → Prop), tn i s.heap → Q (.ref it) s → wpAny (model P w) A (pyIter (.ref it)) Q E s
abbrev TI := St → Hp → (It → Hp → Prop) → Prop
/-- an iterator has come -/
def PIE (X : Cx) (pins : List (Addr × Obj)) (σ : St) (tg : Expr) (R : It → Hp → Prop) (itv : Value) (s2 : Shared) : Prop :=
  ∃ (it : Addr) (fp : List Addr) (tn : Nat → Heap → Prop) (J : It) (H' : Hp), itv = .ref it ∧ Inv X pins σ H' s2 ∧ Turn X.prog X.w X.K tg J fp it tn ∧ tn 0 s2.heap ∧ (∀ b ∈ fp, FpOk X pins H' b) ∧ R J H'
def PI (X : Cx) (tg iter : Expr) (wi : TI) : Prop :=
  ∀ (pins : List (Addr × Obj)) (s : Shared) (σ : St) (H : Hp) (R : It → Hp → Prop), Inv X pins σ H s → wi σ H R →
    wpAny (model X.prog X.w) X.A (eval iter X.env) (fun v s1 => wpAny (model X.prog X.w) X.A (pyIter v) (PIE X pins σ tg R) X.xe s1) X.xe s

/-- the step ahead of the store is nothing for an iterator that keeps no tuple -/
theorem go_of {M : Model} {A : Around} {E : Value → Shared → Prop} {s : Shared} {tg : Expr} {it : Addr} {u : Value} {o : Obj} {n : String} {vs : Array Value} {Q : Unit → Shared → Prop} (ho : s.heap.get? it = some o) (hc : o.cls = .type n) (hd : o.data = .fields vs)
    (hn : ["enumerate", "zip", "dict_itemiterator", "dict_reverseitemiterator", "odict_iterator", "itertools.zip_longest", "itertools.pairwise"].contains n = false) (hQ : Q () s) : wpAny M A (letOwnedTupleGo tg (.ref it) u) Q E s := by
  unfold letOwnedTupleGo
  cases tg <;> first
    | exact wpAny_pure hQ
    | (cases u <;> first
        | exact wpAny_pure hQ
        | (refine wpAny_bind (wpAny_load ho ?_)
           rw [hc, hd]
           show wpAny M A (if (["enumerate", "zip", "dict_itemiterator", "dict_reverseitemiterator", "odict_iterator", "itertools.zip_longest", "itertools.pairwise"].contains n && vs[0]? == some (rawInt _)) = true then _ else _) Q E s
           rw [if_neg (by intro h; rw [hn, Bool.false_and] at h; cases h)]
           exact wpAny_pure hQ))

/-- the list at a, as it stands at each turn (a loop may append to it) -/
def Itl (K : PySem.W.Frag) (a : Addr) : It :=
  ⟨fun i H => ∃ xs x, SqL K H a xs ∧ xs[i]? = some x, fun i H x H' => H' = H ∧ ∀ xs, SqL K H a xs → xs[i]? = some x, fun i H => ∃ xs, SqL K H a xs ∧ xs.length ≤ i⟩
def Itt (K : PySem.W.Frag) (a : Addr) : It :=
  ⟨fun i H => ∃ xs x, SqT K H a xs ∧ xs[i]? = some x, fun i H x H' => H' = H ∧ ∀ xs, SqT K H a xs → xs[i]? = some x, fun i H => ∃ xs, SqT K H a xs ∧ xs.length ≤ i⟩
/-- lo, lo + 1, .. (n of them) -/
def Itr (lo : Int) (n : Nat) : It := ⟨fun i _ => i < n, fun i H x H' => H' = H ∧ x = .int (lo + i), fun i _ => n ≤ i⟩
theorem turn_list {P : Program} {w : World} {K : PySem.W.Frag} {tg : Expr} (a it : Addr) : Turn P w K tg (Itl K a) [it] it (fun i h => h.IsListIter it a i) where
  mem := by simp
  obj := fun i h st b hb => by
    have e : b = it := by simpa using hb
    subst e
    obtain ⟨o, e, c, d⟩ := st
    exact ⟨o, e, fun v z => by rw [d] at z; cases z⟩
  keep := fun i h h' st k => st.at fun o e => k it (by simp) o e
  item := by
    intro X hP hw hK hc i pins s σ H E I hf st hg
    subst hP hw hK
    obtain ⟨xs, x, hq, hx⟩ := hg
    obtain ⟨its, rv, p, hz⟩ := I.list hq
    obtain ⟨u, hu, ru⟩ := rv.get hx
    obtain ⟨f0, f1, f2, f3, f4, f5⟩ := hf it (by simp)
    refine wpAny_pyNext_list_item st p.isList (x := u) (by simpa using hu) fun h' st' sb => ?_
    have I1 : Inv X pins σ H { s with heap := h' } := I.turned (t' := s.toks) (fun b o hb e => (sb.2 b hb).trans e) f0 f1 f3 f4 f5
    obtain ⟨o, e, c, d⟩ := id st'
    exact ⟨u, rfl, go_of (s := { s with heap := h' }) e c d (by decide) ⟨x, H, I1, ru, ⟨rfl, fun ys hy => by rw [I.list_inj hy hq]; exact hx⟩, st', fun b hb => (hf b hb).1⟩⟩
  done := by
    intro X hP hw hK hc i pins s σ H E I hf st hg
    subst hP hw hK
    obtain ⟨xs, hq, hx⟩ := hg
    obtain ⟨its, rv, p, hz⟩ := I.list hq
    obtain ⟨f0, f1, f2, f3, f4, f5⟩ := hf it (by simp)
    have hl := rv.length
    exact wpAny_pyNext_list_end (I.ok.hd hc) st p.isList (by simp; omega) fun h' eb => ⟨rfl, I.turned (t' := s.toks) (fun b o hb e => eb b o hb e) f0 f1 f3 f4 f5⟩
  self := fun _ _ _ _ _ st h => wpAny_pyIter_listiter st h
theorem turn_tuple {P : Program} {w : World} {K : PySem.W.Frag} {tg : Expr} (a it : Addr) : Turn P w K tg (Itt K a) [it] it (fun i h => h.IsTupleIter it a i) where
  mem := by simp
  obj := fun i h st b hb => by
    have e : b = it := by simpa using hb
    subst e
    obtain ⟨o, e, c, d⟩ := st
    exact ⟨o, e, fun v z => by rw [d] at z; cases z⟩
  keep := fun i h h' st k => st.at fun o e => k it (by simp) o e
  item := by
    intro X hP hw hK hc i pins s σ H E I hf st hg
    subst hP hw hK
    obtain ⟨xs, x, hq, hx⟩ := hg
    obtain ⟨its, rv, p, hz⟩ := I.tuple hq
    obtain ⟨u, hu, ru⟩ := rv.get hx
    obtain ⟨f0, f1, f2, f3, f4, f5⟩ := hf it (by simp)
    refine wpAny_pyNext_tuple_item st (show s.heap.IsTuple a its.toArray from p) (x := u) (by simpa using hu) fun h' st' sb => ?_
    have I1 : Inv X pins σ H { s with heap := h' } := I.turned (t' := s.toks) (fun b o hb e => (sb.2 b hb).trans e) f0 f1 f3 f4 f5
    obtain ⟨o, e, c, d⟩ := id st'
    exact ⟨u, rfl, go_of (s := { s with heap := h' }) e c d (by decide) ⟨x, H, I1, ru, ⟨rfl, fun ys hy => by rw [I.tuple_inj hy hq]; exact hx⟩, st', fun b hb => (hf b hb).1⟩⟩
  done := by
    intro X hP hw hK hc i pins s σ H E I hf st hg
    subst hP hw hK
    obtain ⟨xs, hq, hx⟩ := hg
    obtain ⟨its, rv, p, hz⟩ := I.tuple hq
    obtain ⟨f0, f1, f2, f3, f4, f5⟩ := hf it (by simp)
    have hl := rv.length
    exact wpAny_pyNext_tuple_end (I.ok.hd hc) st (show s.heap.IsTuple a its.toArray from p) (by simp; omega) fun h' eb => ⟨rfl, I.turned (t' := s.toks) (fun b o hb e => eb b o hb e) f0 f1 f3 f4 f5⟩
  self := fun _ _ _ _ _ st h => wpAny_pyIter_tupleiter st h
theorem turn_range {P : Program} {w : World} {K : PySem.W.Frag} {tg : Expr} (it : Addr) (lo : Int) (n : Nat) : Turn P w K tg (Itr lo n) [it] it (fun i h => IsRangeIter h it (lo + (i : Nat) * 1) ((n : Int) - (i : Nat)) 1) where
  mem := by simp
  obj := fun i h st b hb => by
    have e : b = it := by simpa using hb
    subst e
    exact ⟨_, st, fun v z => by
      have z' : Data.fields _ = Data.cell v := z
      cases z'⟩
  keep := fun i h h' st k => k it (by simp) _ st
  item := by
    intro X hP hw hK hc i pins s σ H E I hf st hg
    subst hP hw hK
    obtain ⟨f0, f1, f2, f3, f4, f5⟩ := hf it (by simp)
    have W := Walks.range (prog := X.prog) (w := X.w) (I.ok.hd hc) it lo 1 n
    refine W.item i s _ _ hg st fun v h' tk hv st' kk => ?_
    obtain ⟨t, rfl⟩ := hv
    have I1 : Inv X pins σ H { s with heap := h', toks := tk } := I.turned (fun b o hb e => kk b o (by simpa using hb) e) f0 f1 f3 f4 f5
    refine ⟨_, rfl, go_of (s := { s with heap := h', toks := tk }) (n := "range_iterator") st' rfl rfl (by decide) ⟨.int (lo + i), H, I1, ⟨t, ?_⟩, ⟨rfl, rfl⟩, st', fun b hb => (hf b hb).1⟩⟩
    rw [Int.mul_one]
  done := by
    intro X hP hw hK hc i pins s σ H E I hf st hg
    subst hP hw hK
    obtain ⟨f0, f1, f2, f3, f4, f5⟩ := hf it (by simp)
    exact wpAny_pyNext_range_end (I.ok.hd hc) st (by have : n ≤ i := hg; omega) fun h' eb => ⟨rfl, I.turned (t' := s.toks) (fun b o hb e => eb b o hb e) f0 f1 f3 f4 f5⟩
  self := fun _ _ _ _ _ st h => wpAny_pyIter_rangeiter st h
end L2

namespace L2
open PySem PySem.Spec PyProof.Rows
section
variable {X : Cx} {tg : Expr}
def iList (K : PySem.W.Frag) (tl : TE) : TI := fun σ H R => tl σ H fun x H1 => ∃ a, x = .ref a ∧ (∃ xs, SqL K H1 a xs) ∧ R (Itl K a) H1
def iTup (K : PySem.W.Frag) (tl : TE) : TI := fun σ H R => tl σ H fun x H1 => ∃ a, x = .ref a ∧ (∃ xs, SqT K H1 a xs) ∧ R (Itt K a) H1
theorem pi_list {l : Expr} {tl : TE} (hl : PE X l tl) : PI X tg l (iList X.K tl) := by
  intro pins s σ H R I h
  refine thn (hl pins s σ H _ I h) fun v s1 ⟨x, H1, I1, r1, q1⟩ => ?_
  obtain ⟨a, e, ⟨xs, hq⟩, q⟩ := q1
  subst e
  cases r1
  obtain ⟨its, rv, p, hz⟩ := I1.list hq
  refine wpAny_pyIter_list p.isList ?_
  refine ⟨s1.heap.objs.size, [s1.heap.objs.size], _, _, H1, rfl, I1.kept (t' := s1.toks) fun b o e => Heap.get?_push_of_some _ e, turn_list a _, ⟨_, Heap.get?_push_size _ rfl, rfl, rfl⟩, fun b hb => ?_, q⟩
  have e : b = s1.heap.objs.size := by simpa using hb
  subst e
  exact I1.fpOk (Nat.le_refl _) (I1.hok.fresh (Nat.le_refl _))
theorem pi_tup {l : Expr} {tl : TE} (hl : PE X l tl) : PI X tg l (iTup X.K tl) := by
  intro pins s σ H R I h
  refine thn (hl pins s σ H _ I h) fun v s1 ⟨x, H1, I1, r1, q1⟩ => ?_
  obtain ⟨a, e, ⟨xs, hq⟩, q⟩ := q1
  subst e
  cases r1
  obtain ⟨its, rv, p, hz⟩ := I1.tuple hq
  refine wpAny_pyIter_tuple (show s1.heap.IsTuple a its.toArray from p) ?_
  refine ⟨s1.heap.objs.size, [s1.heap.objs.size], _, _, H1, rfl, I1.kept (t' := s1.toks) fun b o e => Heap.get?_push_of_some _ e, turn_tuple a _, ⟨_, Heap.get?_push_size _ rfl, rfl, rfl⟩, fun b hb => ?_, q⟩
  have e : b = s1.heap.objs.size := by simpa using hb
  subst e
  exact I1.fpOk (Nat.le_refl _) (I1.hok.fresh (Nat.le_refl _))
/-- a range object just made, walked -/
theorem range_it {pins : List (Addr × Obj)} {σ : St} {H : Hp} {s : Shared} {R : It → Hp → Prop} {E : Value → Shared → Prop} {lo hi : Int} {t u v : Tok} {tk : Nat} (I : Inv X pins σ H s) (h1 : -(2 ^ 62) ≤ lo) (h2 : lo < 2 ^ 62) (h3 : -(2 ^ 62) ≤ hi) (h4 : hi < 2 ^ 62)
    (q : R (Itr lo (hi - lo).toNat) H) : wpAny (model X.prog X.w) X.A (pyIter (.ref s.heap.objs.size)) (PIE X pins σ tg R) E { s with heap := s.heap.push { cls := .type "range", data := .fields #[.int lo t, .int hi u, .int 1 v] }, toks := tk } := by
  refine wpAny_pyIter_range (IsRange.new ..) (small_one h1 h2 h3 h4) ?_
  have I1 : Inv X pins σ H { s with heap := s.heap.push { cls := .type "range", data := .fields #[.int lo t, .int hi u, .int 1 v] }, toks := tk } := I.kept fun b o e => Heap.get?_push_of_some _ e
  refine ⟨(s.heap.push { cls := .type "range", data := .fields #[.int lo t, .int hi u, .int 1 v] }).objs.size, [(s.heap.push { cls := .type "range", data := .fields #[.int lo t, .int hi u, .int 1 v] }).objs.size], _, _, H, rfl,
    I1.kept (t' := tk) fun b o e => Heap.get?_push_of_some _ e, turn_range _ lo (hi - lo).toNat, ?_, fun b hb => ?_, q⟩
  · have e1 : lo + ((0 : Nat) : Int) * 1 = lo := by simp
    have e2 : (((hi - lo).toNat : Nat) : Int) - ((0 : Nat) : Int) = Builtin.Range.rangeSize lo hi 1 := by rw [rangeSize_one]; split <;> omega
    show IsRangeIter _ _ (lo + ((0 : Nat) : Int) * 1) ((((hi - lo).toNat : Nat) : Int) - ((0 : Nat) : Int)) 1
    rw [e1, e2]
    exact Heap.get?_push_size _ rfl
  · have e : b = (s.heap.push { cls := .type "range", data := .fields #[.int lo t, .int hi u, .int 1 v] }).objs.size := by simpa using hb
    subst e
    exact I1.fpOk (Nat.le_refl _) (I1.hok.fresh (Nat.le_refl _))
def iRng1 (ta : TA) : TI := fun σ H R => ta σ H fun vs H1 => ∃ j : Int, vs = [.int j] ∧ -(2 ^ 62) ≤ j ∧ j < 2 ^ 62 ∧ R (Itr 0 j.toNat) H1
def iRng2 (ta : TA) : TI := fun σ H R => ta σ H fun vs H1 => ∃ i j : Int, vs = [.int i, .int j] ∧ (-(2 ^ 62) ≤ i ∧ i < 2 ^ 62 ∧ -(2 ^ 62) ≤ j ∧ j < 2 ^ 62) ∧ R (Itr i (j - i).toNat) H1
theorem pi_range1 {a : Expr} {ta : TA} {p pos : Pos} (hg : Gl X "range") (hm : X.mg "range" = none) (ha : PA X [a] ta) (hs : starEach [a] X.env = [(false, eval a X.env)] := by rfl) : PI X tg (.Call (.Name "range" p) [a] [] pos) (iRng1 ta) := by
  intro pins s σ H R I h
  refine Call_ (ld_blt I hg hm boot_range (PyProof.Rows.callWith_type1 (thn (ha pos pins s σ H _ I h) fun us s1 ⟨vs, H1, I1, r1, q1⟩ => ?_) hs rfl))
  obtain ⟨j, e, q1, q2, q⟩ := q1
  subst e
  cases r1 with
  | cons r rr =>
    cases rr
    obtain ⟨t, rfl⟩ := r
    exact call_range_1 (range_it I1 (by omega) (by omega) q1 q2 (by simpa using q))

/-! ### for -/
/-- W: the invariant by the turn and a measure; N: what the body is to reach -/
def tFor (wi : TI) (g : TG) (tb : TS) : TS := fun D σ H => wi σ H fun J H1 => ∃ W : Nat → Nat → St → Hp → Prop, (∃ m, W 0 m σ H1) ∧ ∀ i m σ H, W i m σ H →
  (J.stop i H ∧ D.nx σ H) ∨ (J.go i H ∧ ∃ N : St → Hp → Prop, (∀ σ' H', N σ' H' → ∃ m', m' < m ∧ W (i + 1) m' σ' H') ∧ ∀ x H', J.yld i H x H' → g x σ H' fun σ2 H2 => tb { D with nx := N, ct := N, bk := D.nx } σ2 H2)
/-- the records at fp as they stand -/
def pinsAt (fp : List Addr) (h : Heap) : List (Addr × Obj) := fp.filterMap fun b => (h.get? b).map fun o => (b, o)
theorem mem_pinsAt {fp : List Addr} {h : Heap} {b : Addr} {o : Obj} (hb : b ∈ fp) (e : h.get? b = some o) : (b, o) ∈ pinsAt fp h := List.mem_filterMap.mpr ⟨b, hb, by rw [e]; rfl⟩
theorem of_pinsAt {fp : List Addr} {h : Heap} {p : Addr × Obj} (hp : p ∈ pinsAt fp h) : p.1 ∈ fp ∧ h.get? p.1 = some p.2 := by
  obtain ⟨b, hb, e⟩ := List.mem_filterMap.mp hp
  cases q : h.get? b with
  | none => rw [q] at e; cases e
  | some o =>
    rw [q] at e
    have e' : (b, o) = p := Option.some.inj e
    subst e'
    exact ⟨hb, q⟩
theorem Inv.pinned {pins : List (Addr × Obj)} {σ : St} {H : Hp} {s : Shared} {fp : List Addr} (I : Inv X pins σ H s) (hf : ∀ b ∈ fp, FpOk X pins H b) (ho : ∀ b ∈ fp, ∃ o, s.heap.get? b = some o ∧ ∀ v, o.data ≠ .cell v) : Inv X (pins ++ pinsAt fp s.heap) σ H s :=
  I.pins_of fun p hp => (List.mem_append.mp hp).elim (fun z => I.pin p (List.mem_append_right _ z)) fun z => by
    obtain ⟨hb, e⟩ := of_pinsAt z
    obtain ⟨f0, f1, f2, _⟩ := hf p.1 hb
    obtain ⟨o, e', d⟩ := ho p.1 hb
    rw [e] at e'; cases e'
    exact ⟨e, f0, f1, f2, d⟩
theorem Inv.unpinned {pins pl : List (Addr × Obj)} {σ : St} {H : Hp} {s : Shared} (I : Inv X (pins ++ pl) σ H s) : Inv X pins σ H s := I.pins_of fun p hp => I.pin p (List.mem_append_right _ (List.mem_append_left _ hp))
theorem ps_for {iter : Expr} {body : List Stmt} {wi : TI} {g : TG} {tb : TS} {pos : Pos} (hp : PassesOwn (model X.prog X.w) X.A X.env X.xe) (hc : X.calm = true) (hi : PI X tg iter wi) (hg : PG X tg g) (hb : PSs X body tb)
    (hs : ∀ x, foldedSetIterable iter X.env x = pure x := by intro _; rfl) : PS X (.For tg iter body [] pos) (tFor wi g tb) := by
  intro pins s σ H D I h
  refine wpAny_For (thn (hi pins s σ H _ I h) fun v s1 h1 => thn h1 fun itv s2 h2 => ?_) hs
  obtain ⟨it, fp, tn, J, H2, e, I2, T, st2, f2, W, ⟨m0, w0⟩, turn⟩ := h2
  subst e
  -- what stays true of the iterator's objects through the loop
  have stat : ∀ {H' : Hp}, (∀ b ∈ fp, H' b = none) → ∀ b ∈ fp, FpOk X pins H' b := fun hn b hb => ⟨hn b hb, (f2 b hb).2⟩
  refine codeAny_forLoop_any (fun n s' => ∃ i σ' H', Inv X pins σ' H' s' ∧ tn i s'.heap ∧ (∀ b ∈ fp, H' b = none) ∧ W i n σ' H') ?_ m0 ⟨0, σ, H2, I2, st2, fun b hb => (f2 b hb).1, w0⟩
  rintro n s3 ⟨i, σ3, H3, I3, st3, fr3, w3⟩
  rcases turn i n σ3 H3 w3 with ⟨stop, qn⟩ | ⟨go, N, hN, step⟩
  · refine wpAny_passesOwn hp (thn (T.done X rfl rfl rfl hc i pins s3 σ3 H3 X.xe I3 (stat fr3) st3 stop) fun r s4 ⟨hr, I4⟩ => ?_)
    subst hr
    exact wpAny_execs_nil ⟨σ3, H3, I4, qn⟩
  · refine wpAny_passesOwn hp (thn (T.item X rfl rfl rfl hc i pins s3 σ3 H3 X.xe I3 (stat fr3) st3 go) fun r s4 ⟨u, hr, h4⟩ => ?_)
    subst hr
    refine wpAny_passesOwn hp (thn h4 fun _ s5 ⟨x, H5, I5, r5, y5, st5, fr5⟩ => ?_)
    have I5' := I5.pinned (stat fr5) (T.obj _ _ st5)
    refine wpAny_passesOwn hp (thn (hg _ s5 σ3 H5 x u _ I5' r5 (step x H5 y5)) fun _ s6 ⟨σ6, H6, I6, q6⟩ => ?_)
    refine wpAny_passesOwn hp (thn (hb _ s6 σ6 H6 _ I6 q6) fun f s7 q7 => ?_)
    have again : ∀ {σ7 : St} {H7 : Hp}, Inv X (pins ++ pinsAt fp s5.heap) σ7 H7 s7 → N σ7 H7 → ∃ m, m < n ∧ ∃ i σ' H', Inv X pins σ' H' s7 ∧ tn i s7.heap ∧ (∀ b ∈ fp, H' b = none) ∧ W i m σ' H' := fun {σ7 H7} I7 n7 => by
      obtain ⟨m', hm, w7⟩ := hN σ7 H7 n7
      refine ⟨m', hm, i + 1, σ7, H7, I7.unpinned, T.keep _ _ _ st5 fun b hb o e => (I7.pin (b, o) (List.mem_append_right _ (List.mem_append_right _ (mem_pinsAt hb e)))).1, fun b hb => ?_, w7⟩
      obtain ⟨o, e, d⟩ := T.obj _ _ st5 b hb
      exact (I7.pin (b, o) (List.mem_append_right _ (List.mem_append_right _ (mem_pinsAt hb e)))).2.1
    cases f with
    | next => obtain ⟨σ7, H7, I7, n7⟩ := q7; exact again I7 n7
    | cont => obtain ⟨σ7, H7, I7, n7⟩ := q7; exact again I7 n7
    | brk => obtain ⟨σ7, H7, I7, q7⟩ := q7; exact ⟨σ7, H7, I7.unpinned, q7⟩
    | ret v => obtain ⟨x7, σ7, H7, I7, r7, q7⟩ := q7; exact ⟨x7, σ7, H7, I7.unpinned, r7, q7⟩
end

/-! ### the forms one uses -/
/-- over a list that the body leaves as it is -/
theorem for_list {K : PySem.W.Frag} {a : Addr} {xs : List V} {g : TG} {tb : TS} {D : Ends} {σ : St} {H : Hp} (Pv : Nat → St → Hp → Prop) (h0 : Pv 0 σ H) (hl : ∀ i σ H, i ≤ xs.length → Pv i σ H → SqL K H a xs)
    (hs : ∀ i x σ H, xs[i]? = some x → Pv i σ H → g x σ H fun σ2 H2 => tb { D with nx := Pv (i + 1), ct := Pv (i + 1), bk := D.nx } σ2 H2) (hd : ∀ σ H, Pv xs.length σ H → D.nx σ H) :
    ∃ W : Nat → Nat → St → Hp → Prop, (∃ m, W 0 m σ H) ∧ ∀ i m σ H, W i m σ H →
      ((Itl K a).stop i H ∧ D.nx σ H) ∨ ((Itl K a).go i H ∧ ∃ N : St → Hp → Prop, (∀ σ' H', N σ' H' → ∃ m', m' < m ∧ W (i + 1) m' σ' H') ∧ ∀ x H', (Itl K a).yld i H x H' → g x σ H' fun σ2 H2 => tb { D with nx := N, ct := N, bk := D.nx } σ2 H2) := by
  refine ⟨fun i m σ H => m = xs.length - i ∧ i ≤ xs.length ∧ Pv i σ H, ⟨xs.length, by simp, Nat.zero_le _, h0⟩, ?_⟩
  rintro i m σ H ⟨rfl, hi, p⟩
  have q := hl i σ H hi p
  by_cases hlt : i < xs.length
  · refine .inr ⟨⟨xs, xs[i], q, by simp [hlt]⟩, Pv (i + 1), fun σ' H' p' => ⟨xs.length - (i + 1), by omega, rfl, hlt, p'⟩, fun x H' y => ?_⟩
    obtain ⟨e, y⟩ := y
    subst e
    exact hs i x σ _ (y xs q) p
  · have e : i = xs.length := by omega
    subst e
    exact .inl ⟨⟨xs, q, Nat.le_refl _⟩, hd σ H p⟩
theorem for_tup {K : PySem.W.Frag} {a : Addr} {xs : List V} {g : TG} {tb : TS} {D : Ends} {σ : St} {H : Hp} (Pv : Nat → St → Hp → Prop) (h0 : Pv 0 σ H) (hl : ∀ i σ H, i ≤ xs.length → Pv i σ H → SqT K H a xs)
    (hs : ∀ i x σ H, xs[i]? = some x → Pv i σ H → g x σ H fun σ2 H2 => tb { D with nx := Pv (i + 1), ct := Pv (i + 1), bk := D.nx } σ2 H2) (hd : ∀ σ H, Pv xs.length σ H → D.nx σ H) :
    ∃ W : Nat → Nat → St → Hp → Prop, (∃ m, W 0 m σ H) ∧ ∀ i m σ H, W i m σ H →
      ((Itt K a).stop i H ∧ D.nx σ H) ∨ ((Itt K a).go i H ∧ ∃ N : St → Hp → Prop, (∀ σ' H', N σ' H' → ∃ m', m' < m ∧ W (i + 1) m' σ' H') ∧ ∀ x H', (Itt K a).yld i H x H' → g x σ H' fun σ2 H2 => tb { D with nx := N, ct := N, bk := D.nx } σ2 H2) := by
  refine ⟨fun i m σ H => m = xs.length - i ∧ i ≤ xs.length ∧ Pv i σ H, ⟨xs.length, by simp, Nat.zero_le _, h0⟩, ?_⟩
  rintro i m σ H ⟨rfl, hi, p⟩
  have q := hl i σ H hi p
  by_cases hlt : i < xs.length
  · refine .inr ⟨⟨xs, xs[i], q, by simp [hlt]⟩, Pv (i + 1), fun σ' H' p' => ⟨xs.length - (i + 1), by omega, rfl, hlt, p'⟩, fun x H' y => ?_⟩
    obtain ⟨e, y⟩ := y
    subst e
    exact hs i x σ _ (y xs q) p
  · have e : i = xs.length := by omega
    subst e
    exact .inl ⟨⟨xs, q, Nat.le_refl _⟩, hd σ H p⟩
theorem for_range {lo : Int} {n : Nat} {g : TG} {tb : TS} {D : Ends} {σ : St} {H : Hp} (Pv : Nat → St → Hp → Prop) (h0 : Pv 0 σ H)
    (hs : ∀ i σ H, i < n → Pv i σ H → g (.int (lo + i)) σ H fun σ2 H2 => tb { D with nx := Pv (i + 1), ct := Pv (i + 1), bk := D.nx } σ2 H2) (hd : ∀ σ H, Pv n σ H → D.nx σ H) :
    ∃ W : Nat → Nat → St → Hp → Prop, (∃ m, W 0 m σ H) ∧ ∀ i m σ H, W i m σ H →
      ((Itr lo n).stop i H ∧ D.nx σ H) ∨ ((Itr lo n).go i H ∧ ∃ N : St → Hp → Prop, (∀ σ' H', N σ' H' → ∃ m', m' < m ∧ W (i + 1) m' σ' H') ∧ ∀ x H', (Itr lo n).yld i H x H' → g x σ H' fun σ2 H2 => tb { D with nx := N, ct := N, bk := D.nx } σ2 H2) := by
  refine ⟨fun i m σ H => m = n - i ∧ i ≤ n ∧ Pv i σ H, ⟨n, by simp, Nat.zero_le _, h0⟩, ?_⟩
  rintro i m σ H ⟨rfl, hi, p⟩
  by_cases hlt : i < n
  · refine .inr ⟨hlt, Pv (i + 1), fun σ' H' p' => ⟨n - (i + 1), by omega, rfl, hlt, p'⟩, fun x H' y => ?_⟩
    obtain ⟨e, y⟩ := y
    subst e y
    exact hs i σ _ hlt p
  · have e : i = n := by omega
    subst e
    exact .inl ⟨Nat.le_refl _, hd σ H p⟩
end L2

namespace L2
open PySem PySem.Spec PyProof.Rows

abbrev R2 := V → V → Hp → VK → Prop
/-- a two-place operation on values: f is binaryOp op, inplaceOp op or compareOp op -/
def OpR (X : Cx) (f : Value → Value → Sem Value) (r : R2) : Prop :=
  ∀ (pins : List (Addr × Obj)) (s : Shared) (σ : St) (H : Hp) (x y : V) (v u : Value) (Q : VK), Inv X pins σ H s → RelV x v → RelV y u → r x y H Q →
    wpAny (model X.prog X.w) X.A (f v u) (EP X pins σ Q) X.xe s
/-- a one-place operation -/
def UnR (X : Cx) (f : Value → Sem Value) (r : V → Hp → VK → Prop) : Prop :=
  ∀ (pins : List (Addr × Obj)) (s : Shared) (σ : St) (H : Hp) (x : V) (v : Value) (Q : VK), Inv X pins σ H s → RelV x v → r x H Q →
    wpAny (model X.prog X.w) X.A (f v) (EP X pins σ Q) X.xe s
/-- a call of a value that is known (a builtin, a type) with values -/
def CallR (X : Cx) (f : Value) (r : List V → Hp → VK → Prop) : Prop :=
  ∀ (pins : List (Addr × Obj)) (s : Shared) (σ : St) (H : Hp) (xs : List V) (us : List Value) (Q : VK), Inv X pins σ H s → Vals xs us → r xs H Q →
    wpAny (model X.prog X.w) X.A (call f us) (EP X pins σ Q) X.xe s
/-- a value's truth -/
def TruR (X : Cx) (r : V → Hp → (Bool → Hp → Prop) → Prop) : Prop :=
  ∀ (pins : List (Addr × Obj)) (s : Shared) (σ : St) (H : Hp) (x : V) (v : Value) (Q : Bool → Hp → Prop), Inv X pins σ H s → RelV x v → r x H Q →
    wpAny (model X.prog X.w) X.A (truthy v) (TP X pins σ Q) X.xe s

def tOp (r : R2) (ta tb : TE) : TE := fun σ H Q => ta σ H fun x H1 => tb σ H1 fun y H2 => r x y H2 Q
def tUn (r : V → Hp → VK → Prop) (ta : TE) : TE := fun σ H Q => ta σ H fun x H1 => r x H1 Q
/-- ints in, under C, and a value out -/
def rI (C : Int → Int → Prop) (g : Int → Int → V) : R2 := fun x y H Q => ∃ i j, x = .int i ∧ y = .int j ∧ C i j ∧ Q (g i j) H
def rI0 (g : Int → Int → V) : R2 := fun x y H Q => ∃ i j, x = .int i ∧ y = .int j ∧ Q (g i j) H
def rU (g : Int → V) : V → Hp → VK → Prop := fun x H Q => ∃ i, x = .int i ∧ Q (g i) H

section
variable {X : Cx} {a b c : Expr} {ta tb tc : TE} {pos : Pos}

theorem binT (ha : PE X a ta) (hb : PE X b tb) {pins : List (Addr × Obj)} {s : Shared} {σ : St} {H : Hp} {R : V → V → Hp → Prop} (I : Inv X pins σ H s)
    (h : ta σ H fun x H1 => tb σ H1 fun y H2 => R x y H2) {Q : Value → Shared → Prop} {f : Value → Value → Sem Value}
    (hf : ∀ v u s2 x y H2, Inv X pins σ H2 s2 → RelV x v → RelV y u → R x y H2 → wpAny (model X.prog X.w) X.A (f v u) Q X.xe s2) :
    wpAny (model X.prog X.w) X.A (eval a X.env) (fun v s₁ => wpAny (model X.prog X.w) X.A (eval b X.env) (fun u s₂ => wpAny (model X.prog X.w) X.A (f v u) Q X.xe s₂) X.xe s₁) X.xe s := by
  refine thn (ha pins s σ H _ I h) fun v s1 ⟨x, H1, I1, r1, q1⟩ => ?_
  refine thn (hb pins s1 σ H1 _ I1 q1) fun u s2 ⟨y, H2, I2, r2, q2⟩ => ?_
  exact hf v u s2 x y H2 I2 r1 r2 q2

theorem pe_op {op : Operator} {r : R2} (ho : OpR X (binaryOp op) r) (ha : PE X a ta) (hb : PE X b tb) : PE X (.BinOp a op b pos) (tOp r ta tb) := by
  intro pins s σ H Q I h
  exact wpAny_BinOp (binT ha hb I h fun v u s2 x y H2 I2 rx ry q => ho pins s2 σ H2 x y v u Q I2 rx ry q)

/-! ### ints -/
theorem opI {f : Value → Value → Sem Value} {C : Int → Int → Prop} {g : Int → Int → Int}
    (rule : ∀ (i j : Int) (t u : Tok) (s : Shared) (Q : Value → Shared → Prop) (E : Value → Shared → Prop), C i j → Q (.int (g i j) s.toks) { s with toks := s.toks + 1 } → wpAny (model X.prog X.w) X.A (f (.int i t) (.int j u)) Q E s) :
    OpR X f (rI C fun i j => .int (g i j)) := by
  intro pins s σ H x y v u Q I rx ry h
  obtain ⟨i, j, rfl, rfl, hc, q⟩ := h
  obtain ⟨t, rfl⟩ := rx
  obtain ⟨t', rfl⟩ := ry
  exact rule i j t t' s _ _ hc ⟨.int (g i j), H, I.tok _, ⟨_, rfl⟩, q⟩
theorem opI0 {f : Value → Value → Sem Value} {g : Int → Int → Int}
    (rule : ∀ (i j : Int) (t u : Tok) (s : Shared) (Q : Value → Shared → Prop) (E : Value → Shared → Prop), Q (.int (g i j) s.toks) { s with toks := s.toks + 1 } → wpAny (model X.prog X.w) X.A (f (.int i t) (.int j u)) Q E s) :
    OpR X f (rI0 fun i j => .int (g i j)) := by
  intro pins s σ H x y v u Q I rx ry h
  obtain ⟨i, j, rfl, rfl, q⟩ := h
  obtain ⟨t, rfl⟩ := rx
  obtain ⟨t', rfl⟩ := ry
  exact rule i j t t' s _ _ ⟨.int (g i j), H, I.tok _, ⟨_, rfl⟩, q⟩
theorem opB0 {f : Value → Value → Sem Value} {g : Int → Int → Bool}
    (rule : ∀ (i j : Int) (t u : Tok) (s : Shared) (Q : Value → Shared → Prop) (E : Value → Shared → Prop), Q (.bool (g i j)) s → wpAny (model X.prog X.w) X.A (f (.int i t) (.int j u)) Q E s) :
    OpR X f (rI0 fun i j => .bl (g i j)) := by
  intro pins s σ H x y v u Q I rx ry h
  obtain ⟨i, j, rfl, rfl, q⟩ := h
  obtain ⟨t, rfl⟩ := rx
  obtain ⟨t', rfl⟩ := ry
  exact rule i j t t' s _ _ ⟨.bl (g i j), H, I, rfl, q⟩

def CDiv (i j : Int) : Prop := 0 < j ∧ j < 1073741824
def CDivN (i j : Int) : Prop := j ≠ 0 ∧ j.natAbs < 1073741824
def CPow (i j : Int) : Prop := 0 ≤ j ∧ j ≤ 1000000 ∧ i.natAbs < 2 ^ 64
def CMul (i j : Int) : Prop := (-(2 ^ 64) < i ∧ i < 2 ^ 64) ∨ (-(2 ^ 64) < j ∧ j < 2 ^ 64)
theorem CMul.ok {i j : Int} (h : CMul i j) : IntMulOk i j := by
  rcases h with ⟨h1, h2⟩ | ⟨h1, h2⟩
  · exact .of_left (intBits_le_64 h1 h2)
  · exact .of_right (intBits_le_64 h1 h2)

theorem op_add : OpR X (binaryOp .Add) (rI0 fun i j => .int (i + j)) := opI0 fun _ _ _ _ _ _ _ q => add_int q
theorem op_mul : OpR X (binaryOp .Mult) (rI CMul fun i j => .int (i * j)) := opI fun _ _ _ _ _ _ _ hc q => mul_int q hc.ok
/-- // by a positive divisor -/
theorem op_fdiv : OpR X (binaryOp .FloorDiv) (rI CDiv fun i j => .int (i / j)) := opI fun i j _ _ _ _ _ hc q => by
  have h1 : (0 : Int) < j := hc.1
  have h2 : j < 1073741824 := hc.2
  exact floordiv_int (by omega) (by rw [Int.fdiv_eq_ediv_of_nonneg i (by omega)]; exact q) (.inl (PyProof.noPylong_small (by omega)))
/-- % by a positive divisor of any size -/
theorem op_mod : OpR X (binaryOp .Mod) (rI (fun _ j => 0 < j) fun i j => .int (i % j)) := opI fun i j _ _ _ _ _ hc q => by
  have h1 : (0 : Int) < j := hc
  exact mod_int' (by omega) (by rw [Int.fmod_eq_emod_of_nonneg i (by omega)]; exact q)



/-! ### bools among ints: n += (a < b) -/
end

/-! ### comparisons -/
/-- the scalars that == tells apart as data does -/
def scal : V → V → Bool
  | .non, .non => true | .non, .int _ => true | .int _, .non => true | .non, .bl _ => true | .bl _, .non => true | .non, .str _ => true | .str _, .non => true
  | .int _, .int _ => true | .bl _, .bl _ => true | .str _, .str _ => true | .byt _, .byt _ => true
  | .int _, .str _ => true | .str _, .int _ => true | .bl _, .str _ => true | .str _, .bl _ => true
  | _, _ => false
def rEq : R2 := fun x y H Q => scal x y = true ∧ Q (.bl (decide (x = y))) H
def rNe : R2 := fun x y H Q => scal x y = true ∧ Q (.bl (!decide (x = y))) H

theorem dec_int {i j : Int} : decide (V.int i = V.int j) = (i == j) := by
  rw [Bool.eq_iff_iff]
  simp
theorem dec_bl {i j : Bool} : decide (V.bl i = V.bl j) = (i == j) := by
  rw [Bool.eq_iff_iff]
  simp
theorem dec_str {i j : Str} : decide (V.str i = V.str j) = (i == j) := by
  rw [Bool.eq_iff_iff]
  simp
theorem dec_byt {i j : Array UInt8} : decide (V.byt i = V.byt j) = (i.toList == j.toList) := by
  rw [Bool.eq_iff_iff]
  cases i
  cases j
  simp

section
variable {X : Cx} {a b c : Expr} {ta tb tc : TE} {pos : Pos}
theorem fin_bl {pins : List (Addr × Obj)} {σ : St} {H : Hp} {s : Shared} {Q : VK} {k k' : Bool} (I : Inv X pins σ H s) (q : Q (.bl k) H) (e : k = k') : EP X pins σ Q (.bool k') s := by
  subst e
  exact ⟨.bl k, H, I, rfl, q⟩
theorem op_eq : OpR X (compareOp .Eq) rEq := by
  intro pins s σ H x y v u Q I rx ry h
  obtain ⟨hs, q⟩ := h
  cases x with
  | non =>
    cases rx
    cases y with
    | non => cases ry; exact PySem.EqNone.eq_none_none (fin_bl I q (by simp))
    | bl j => cases ry; exact PySem.EqNone.eq_none_bool (fin_bl I q (by simp))
    | int j => obtain ⟨t', rfl⟩ := ry; exact PySem.EqNone.eq_none_int (fin_bl I q (by simp))
    | str j => obtain ⟨t', rfl⟩ := ry; exact PySem.EqNone.eq_none_str (fin_bl I q (by simp))
    | _ => exact absurd (show false = true from hs) Bool.false_ne_true
  | bl i =>
    cases rx
    cases y with
    | non => cases ry; exact PySem.EqNone.eq_bool_none (fin_bl I q (by simp))
    | bl j => cases ry; exact eq_bool (fin_bl I q dec_bl)
    | str j => obtain ⟨t', rfl⟩ := ry; exact PySem.EqMixed.eq_bool_str (fin_bl I q (by simp))
    | _ => exact absurd (show false = true from hs) Bool.false_ne_true
  | int i =>
    obtain ⟨t, rfl⟩ := rx
    cases y with
    | non => cases ry; exact PySem.EqNone.eq_int_none (fin_bl I q (by simp))
    | int j => obtain ⟨t', rfl⟩ := ry; exact eq_int (fin_bl I q dec_int)
    | str j => obtain ⟨t', rfl⟩ := ry; exact PySem.EqMixed.eq_int_str (fin_bl I q (by simp))
    | _ => exact absurd (show false = true from hs) Bool.false_ne_true
  | str i =>
    obtain ⟨t, rfl⟩ := rx
    cases y with
    | non => cases ry; exact PySem.EqNone.eq_str_none (fin_bl I q (by simp))
    | bl j => cases ry; exact PySem.EqMixed.eq_str_bool (fin_bl I q (by simp))
    | int j => obtain ⟨t', rfl⟩ := ry; exact PySem.EqMixed.eq_str_int (fin_bl I q (by simp))
    | str j => obtain ⟨t', rfl⟩ := ry; exact eq_str (fin_bl I q dec_str)
    | _ => exact absurd (show false = true from hs) Bool.false_ne_true
  | byt i =>
    obtain ⟨t, rfl⟩ := rx
    cases y with
    | byt j => obtain ⟨t', rfl⟩ := ry; exact PySem.W.eq_bytes (fin_bl I q dec_byt)
    | _ => exact absurd (show false = true from hs) Bool.false_ne_true
  | _ => cases y <;> exact absurd (show false = true from hs) Bool.false_ne_true
theorem op_ne : OpR X (compareOp .NotEq) rNe := by
  intro pins s σ H x y v u Q I rx ry h
  obtain ⟨hs, q⟩ := h
  cases x with
  | non =>
    cases rx
    cases y with
    | non => cases ry; exact PySem.EqNone.ne_none_none (fin_bl I q (by simp))
    | bl j => cases ry; exact PySem.EqNone.ne_none_bool (fin_bl I q (by simp))
    | int j => obtain ⟨t', rfl⟩ := ry; exact PySem.EqNone.ne_none_int (fin_bl I q (by simp))
    | str j => obtain ⟨t', rfl⟩ := ry; exact PySem.EqNone.ne_none_str (fin_bl I q (by simp))
    | _ => exact absurd (show false = true from hs) Bool.false_ne_true
  | bl i =>
    cases rx
    cases y with
    | non => cases ry; exact PySem.EqNone.ne_bool_none (fin_bl I q (by simp))
    | bl j => cases ry; exact ne_bool (fin_bl I q (congrArg not dec_bl))
    | str j => obtain ⟨t', rfl⟩ := ry; exact PySem.EqMixed.ne_bool_str (fin_bl I q (by simp))
    | _ => exact absurd (show false = true from hs) Bool.false_ne_true
  | int i =>
    obtain ⟨t, rfl⟩ := rx
    cases y with
    | non => cases ry; exact PySem.EqNone.ne_int_none (fin_bl I q (by simp))
    | int j => obtain ⟨t', rfl⟩ := ry; exact ne_int (fin_bl I q (congrArg not dec_int))
    | str j => obtain ⟨t', rfl⟩ := ry; exact PySem.EqMixed.ne_int_str (fin_bl I q (by simp))
    | _ => exact absurd (show false = true from hs) Bool.false_ne_true
  | str i =>
    obtain ⟨t, rfl⟩ := rx
    cases y with
    | non => cases ry; exact PySem.EqNone.ne_str_none (fin_bl I q (by simp))
    | bl j => cases ry; exact PySem.EqMixed.ne_str_bool (fin_bl I q (by simp))
    | int j => obtain ⟨t', rfl⟩ := ry; exact PySem.EqMixed.ne_str_int (fin_bl I q (by simp))
    | str j => obtain ⟨t', rfl⟩ := ry; exact ne_str (fin_bl I q (congrArg not dec_str))
    | _ => exact absurd (show false = true from hs) Bool.false_ne_true
  | byt i =>
    obtain ⟨t, rfl⟩ := rx
    cases y with
    | byt j => obtain ⟨t', rfl⟩ := ry; exact PySem.W.ne_bytes (fin_bl I q (congrArg not dec_byt))
    | _ => exact absurd (show false = true from hs) Bool.false_ne_true
  | _ => cases y <;> exact absurd (show false = true from hs) Bool.false_ne_true

theorem op_lt : OpR X (compareOp .Lt) (rI0 fun i j => .bl (decide (i < j))) := opB0 fun _ _ _ _ _ _ _ q => lt_int q


/-- is, is not of two objects that are tracked lists or instances -/
def isObj : HO → Bool
  | .lst _ => true
  | .ins _ _ _ => true
  | _ => false

/-- two rules for one operation: by cases -/
theorem OpR.or {f : Value → Value → Sem Value} {r r' : R2} (h : OpR X f r) (h' : OpR X f r') : OpR X f (fun x y H Q => r x y H Q ∨ r' x y H Q) := by
  intro pins s σ H x y v u Q I rx ry q
  rcases q with q | q
  · exact h pins s σ H x y v u Q I rx ry q
  · exact h' pins s σ H x y v u Q I rx ry q

theorem nomark (b : Expr) {op : CmpOp} (h : op ≠ .In := by decide) (h2 : op ≠ .NotIn := by decide) : behindInMarks op b = false := by
  have e1 : (op == CmpOp.In) = false := by cases op <;> first | rfl | exact absurd rfl h
  have e2 : (op == CmpOp.NotIn) = false := by cases op <;> first | rfl | exact absurd rfl h2
  cases b <;> simp [behindInMarks, e1, e2]
/-- a comparison as a value; hm: nomark b, or (for in, not in) by with_unfolding_all rfl -/
theorem pe_cmpR {op : CmpOp} {r : R2} (ho : OpR X (compareOp op) r) (ha : PE X a ta) (hb : PE X b tb) (hm : behindInMarks op b = false) : PE X (.Compare a [op] [b] pos) (tOp r ta tb) := by
  intro pins s σ H Q I h
  exact wpAny_Compare1 (binT ha hb I h fun v u s2 x y H2 I2 rx ry q => ho pins s2 σ H2 x y v u Q I2 rx ry q) hm
/-- a reading of a value as a test -/
def tTest (t : TE) : TT := fun σ H Q => t σ H fun x H' => ∃ k, x = .bl k ∧ Q k H'
theorem pt_cmpR {op : CmpOp} {r : R2} (ho : OpR X (compareOp op) r) (ha : PE X a ta) (hb : PE X b tb) (hm : behindInMarks op b = false) : PT X (.Compare a [op] [b] pos) (tTest (tOp r ta tb)) := by
  intro pins s σ H Q I h
  refine wpAny_isTrue_Compare1 (thn (ha pins s σ H _ I h) fun v s1 ⟨x, H1, I1, r1, q1⟩ => thn (hb pins s1 σ H1 _ I1 q1) fun u s2 ⟨y, H2, I2, r2, q2⟩ =>
    thn (ho pins s2 σ H2 x y v u _ I2 r1 r2 q2) fun c s3 ⟨z, H3, I3, r3, k, e, q3⟩ => ?_) hm
  subst e
  cases r3
  exact wpAny_truthy_bool ⟨H3, I3, q3⟩
/-- a op1 b op2 c -/
def tChain (r r' : R2) (ta tb tc : TE) : TE := fun σ H Q => ta σ H fun x H1 => tb σ H1 fun y H2 => r x y H2 fun z H3 => ∃ k, z = .bl k ∧
  (if k = true then tc σ H3 fun w' H4 => r' y w' H4 Q else Q (.bl false) H3)

/-! ### truth -/
/-- a value's truth by the abstract heap -/
def TruV (K : PySem.W.Frag) (x : V) (H : Hp) (k : Bool) : Prop :=
  match x with
  | .non => k = false
  | .bl b => k = b
  | .int i => k = (i != 0)
  | .str y => y.length ≤ sizeLine ∧ k = ((y.length : Int) != 0)
  | .byt y => y.size ≤ sizeLine ∧ k = ((y.size : Int) != 0)
  | .ref p => (∃ xs, SqL K H p xs ∧ k = !xs.isEmpty) ∨ (∃ xs, SqT K H p xs ∧ k = !xs.isEmpty) ∨ ∃ kvs, H p = some (.dK kvs) ∧ k = !kvs.isEmpty
  | _ => False
theorem line63 : (sizeLine : Nat) < 2 ^ 63 := by rw [sizeLine_eq]; decide

/-! ### strs and bytes -/
theorem op_add_str : OpR X (binaryOp .Add) (fun x y H Q => ∃ i j, x = .str i ∧ y = .str j ∧ i.length + j.length ≤ sizeLine ∧ Q (.str (i ++ j)) H) := by
  intro pins s σ H x y v u Q I rx ry h
  obtain ⟨i, j, rfl, rfl, hz, q⟩ := h
  obtain ⟨t, rfl⟩ := rx
  obtain ⟨t', rfl⟩ := ry
  exact add_str (fun t' tk => ⟨.str (i ++ j), H, I.tok _, ⟨_, rfl⟩, q⟩) hz

def PlainIxT (b : Expr) : Prop := ∀ o i, subscripted b false o i = operate [o, i] (getItem o i)

/-! ### scalar builtins, by CallR -/
theorem vals1 {x : V} {us : List Value} (r : Vals [x] us) : ∃ u, us = [u] ∧ RelV x u := by
  cases r with
  | cons r1 r2 => cases r2; exact ⟨_, rfl, r1⟩
theorem vals2 {x y : V} {us : List Value} (r : Vals [x, y] us) : ∃ u w', us = [u, w'] ∧ RelV x u ∧ RelV y w' := by
  cases r with
  | cons r1 r2 =>
    cases r2 with
    | cons r3 r4 => cases r4; exact ⟨_, _, rfl, r1, r3⟩
theorem call_abs : CallR X (.builtin "abs") (fun xs H Q => ∃ i, xs = [.int i] ∧ Q (.int (if i < 0 then -i else i)) H) := by
  intro pins s σ H xs us Q I r h
  obtain ⟨i, rfl, q⟩ := h
  obtain ⟨u, rfl, t, rfl⟩ := vals1 r
  exact call_abs_int fun u tk => ⟨.int (if i < 0 then -i else i), H, I.tok _, ⟨_, rfl⟩, q⟩
theorem call_max2 (hc : X.calm = true) : CallR X (.builtin "max") (fun xs H Q => ∃ i j, xs = [.int i, .int j] ∧ Q (.int (if j > i then j else i)) H) := by
  intro pins s σ H xs us Q I r h
  obtain ⟨i, j, rfl, q⟩ := h
  obtain ⟨u, w', rfl, ⟨t, rfl⟩, ⟨t', rfl⟩⟩ := vals2 r
  refine max_two_ints (I.ok.hd hc) fun h' tk k => ⟨_, H, I.kept k, ?_, q⟩
  by_cases hj : j > i
  · rw [if_pos hj, if_pos hj]; exact ⟨_, rfl⟩
  · rw [if_neg hj, if_neg hj]; exact ⟨_, rfl⟩
theorem call_min2 (hc : X.calm = true) : CallR X (.builtin "min") (fun xs H Q => ∃ i j, xs = [.int i, .int j] ∧ Q (.int (if j < i then j else i)) H) := by
  intro pins s σ H xs us Q I r h
  obtain ⟨i, j, rfl, q⟩ := h
  obtain ⟨u, w', rfl, ⟨t, rfl⟩, ⟨t', rfl⟩⟩ := vals2 r
  refine min_two_ints (I.ok.hd hc) fun h' tk k => ⟨_, H, I.kept k, ?_, q⟩
  by_cases hj : j < i
  · rw [if_pos hj, if_pos hj]; exact ⟨_, rfl⟩
  · rw [if_neg hj, if_neg hj]; exact ⟨_, rfl⟩
theorem call_int1 : CallR X (.type "int") (fun xs H Q => (∃ i, xs = [.int i] ∧ Q (.int i) H) ∨ ∃ k, xs = [.bl k] ∧ Q (.int (if k then 1 else 0)) H) := by
  intro pins s σ H xs us Q I r h
  rcases h with ⟨i, rfl, q⟩ | ⟨k, rfl, q⟩
  · obtain ⟨u, rfl, t, rfl⟩ := vals1 r
    exact call_int_int ⟨.int i, H, I, ⟨_, rfl⟩, q⟩
  · obtain ⟨u, rfl, r1⟩ := vals1 r
    cases r1
    exact call_int_bool ⟨.int (if k then 1 else 0), H, I.tok _, ⟨_, rfl⟩, q⟩
/-- len of a str, a bytes, a list, a tuple -/
def LenV (K : PySem.W.Frag) (x : V) (H : Hp) (n : Nat) : Prop :=
  match x with
  | .str y => y.length ≤ sizeLine ∧ n = y.length
  | .byt y => y.size ≤ sizeLine ∧ n = y.size
  | .ref p => (∃ xs, SqL K H p xs ∧ n = xs.length) ∨ ∃ xs, SqT K H p xs ∧ n = xs.length
  | _ => False
end
end L2

namespace L2
open PySem PySem.Spec PyProof.Rows

/-! ### an instance, its attributes a map -/
structure ObjM (h : Heap) (x dx C : Addr) (mA : Str → Option Value) : Prop where
  obj : h.get? x = some (PySem.W.instObj C dx)
  ns : h.Ns1 dx mA
  ne : dx ≠ x

theorem lookIn_ns {h : Heap} {dx : Addr} {mA : Str → Option Value} (n : h.Ns1 dx mA) : ∃ od, h.get? dx = some od ∧ ∀ name, PySem.W.lookIn name od = some (mA name) := by
  obtain ⟨o, es, ep, ho, hd, hk, _, hm⟩ := n
  refine ⟨o, ho, fun name => ?_⟩
  have e := hm name
  unfold nsFind findBy at e
  rw [← Array.find?_toList] at e
  unfold PySem.W.lookIn
  rw [hd]
  dsimp only
  split
  · rename_i y q
    rw [q] at e
    exact congrArg some e
  · rename_i q
    rw [q] at e
    have a : es.toList.any (·.refKey) = false := by
      rw [List.any_eq_false]
      intro y hy
      obtain ⟨z, t, hkey⟩ := hk y (Array.mem_toList_iff.mp hy)
      simp [DictEntry.refKey, hkey]
    have a' : ¬ es.toList.any (·.refKey) = true := by rw [a]; exact Bool.false_ne_true
    rw [if_neg a']
    exact congrArg some e

theorem ObjM.look {h : Heap} {x dx C : Addr} {mA : Str → Option Value} (I : ObjM h x dx C mA) : ∃ od, PySem.W.InstAt h x (PySem.W.instObj C dx) C (some od) ∧ ∀ name, PySem.W.lookIn name od = some (mA name) :=
  let ⟨od, ho, hl⟩ := lookIn_ns I.ns
  ⟨od, ⟨I.obj, rfl, rfl, ho⟩, hl⟩

section
variable {prog : Program} {w : World} {A : Around} {E : Value → Shared → Prop} {s : Shared} {K : PySem.W.Frag} {x dx C f : Addr} {mA : Str → Option Value} {name : Str} {v : Value}





end

/-! ### the attributes as a list of pairs -/
def putF (f : Str) (v : V) : List (Str × V) → List (Str × V)
  | [] => [(f, v)]
  | (g, x) :: r => if g = f then (g, v) :: r else (g, x) :: putF f v r


section
variable {P : Program} {w : World} {H H' : Hp} {h h' : Heap} {a C dx : Addr} {fs fs' : List (Str × V)}
theorem ins_get (hok : HOk P w H h) (e : H a = some (.ins C dx fs)) : ∃ mA, ObjM h a dx C mA ∧ (∀ f, RelO (fs.lookup f) (mA f)) ∧ PySem.Within mA (fs.map (·.1)) ∧ fs.length ≤ 1000 ∧ H dx = some (.own a) := by
  obtain ⟨d, z, ne, ob, mA, n, r, q⟩ := (show ObjOk P w H h a (.ins C dx fs) from hok a _ e)
  exact ⟨mA, ⟨ob, n, ne⟩, r, q, z, d⟩
end

/-! ### what of the text a class must have -/
structure Cls (K : PySem.W.Frag) (C : Addr) : Prop where
  pg : PySem.W.plainGet K C Str.empty = true
  hd : PySem.W.hasDictIn K C = true
  po : PySem.W.plainOver K C = true
  sa : PySem.W.findIn K (.ref C) "__setattr__" = some (some (.builtin "object.__setattr__"))
theorem Cls.get {K : PySem.W.Frag} {C : Addr} (c : Cls K C) (f : Str) : PySem.W.plainGet K C f = true := c.pg
/-- no class of it has the name -/
def NoAttr (K : PySem.W.Frag) (C : Addr) (f : Str) : Prop := PySem.W.findIn K (.ref C) f = some none
/-- a constant of the class -/
structure Con (K : PySem.W.Frag) (C : Addr) (f : Str) (v : V) (u : Value) : Prop where
  at_ : PySem.W.findIn K (.ref C) f = some (some u)
  rel : RelV v u
  get : PySem.W.specialIn K u "__get__" = some none
  cp : PySem.W.copiedNames.contains f = false
/-- a method: a plain def of the class or of one above it -/
structure Meth (K : PySem.W.Frag) (C : Addr) (m : Str) (f : Addr) : Prop where
  at_ : PySem.W.findIn K (.ref C) m = some (some (.ref f))
  fn : PySem.W.isFn K (.ref f) = true
  kp : PySem.W.keepIn K (.ref f) = true

section
variable {X : Cx} {pins : List (Addr × Obj)} {σ : St} {H : Hp} {s : Shared} {a C dx : Addr} {fs : List (Str × V)} {f : Str} {v : V} {A : Around} {E : Value → Shared → Prop}






end

/-! ### readings and rules -/
/-- e.f, an attribute of the instance -/
def tFld (K : PySem.W.Frag) (ta : TE) (f : Str) : TE := fun σ H Q => ta σ H fun x H1 => ∃ a C dx fs v, x = .ref a ∧ H1 a = some (.ins C dx fs) ∧ Cls K C ∧ NoAttr K C f ∧ fs.lookup f = some v ∧ Q v H1
/-- e.f, a constant of the class -/
def tCon (K : PySem.W.Frag) (ta : TE) (f : Str) : TE := fun σ H Q => ta σ H fun x H1 => ∃ a C dx fs v u, x = .ref a ∧ H1 a = some (.ins C dx fs) ∧ Cls K C ∧ Con K C f v u ∧ fs.lookup f = none ∧ Q v H1
/-- e.f = value -/
def sFld (K : PySem.W.Frag) (ta tv : TE) (f : Str) : TS := fun D σ H => tv σ H fun y H1 => ta σ H1 fun x H2 => ∃ a C dx fs, x = .ref a ∧ H2 a = some (.ins C dx fs) ∧ Cls K C ∧ NoAttr K C f ∧ fs.length < 1000 ∧
  D.nx σ (upd H2 a (.ins C dx (putF f y fs)))
/-- an augmented operator on two values -/
def InOp (X : Cx) (op : Operator) (rd : V → V → Hp → VK → Prop) : Prop :=
  ∀ (pins : List (Addr × Obj)) (s : Shared) (σ : St) (H : Hp) (x y : V) (u v : Value) (Q : VK), Inv X pins σ H s → RelV x u → RelV y v → rd x y H Q → wpAny (model X.prog X.w) X.A (inplaceOp op u v) (EP X pins σ Q) X.xe s
/-- e.f op= value -/
def sFldAug (K : PySem.W.Frag) (ta tv : TE) (rd : V → V → Hp → VK → Prop) (f : Str) : TS := fun D σ H => ta σ H fun x H1 => ∃ a C dx fs v, x = .ref a ∧ H1 a = some (.ins C dx fs) ∧ Cls K C ∧ NoAttr K C f ∧ fs.lookup f = some v ∧
  tv σ H1 fun y H2 => rd v y H2 fun z H3 => ∃ dx' fs', H3 a = some (.ins C dx' fs') ∧ fs'.length < 1000 ∧ D.nx σ (upd H3 a (.ins C dx' (putF f z fs')))

section
variable {X : Cx} {o e value : Expr} {f : Str} {pos pos' tpos : Pos} {ta tv : TE}
def rAdd : V → V → Hp → VK → Prop := fun x y H Q => ∃ i j, x = .int i ∧ y = .int j ∧ Q (.int (i + j)) H
def rSub : V → V → Hp → VK → Prop := fun x y H Q => ∃ i j, x = .int i ∧ y = .int j ∧ Q (.int (i - j)) H

end

/-! ### isinstance -/
section
variable {X : Cx} {pins : List (Addr × Obj)} {σ : St} {H : Hp} {s : Shared} {A : Around} {E : Value → Shared → Prop} {Q : Value → Shared → Prop} {c : Value} {b : Bool}
/-- the type of a value, as the fragment's deciders take it; for an instance its class -/
inductive TyOf (K : PySem.W.Frag) (H : Hp) : V → Value → Prop where
  | non : TyOf K H .non (.type "NoneType")
  | bl (x : Bool) : TyOf K H (.bl x) (.type "bool")
  | int (i : Int) : TyOf K H (.int i) (.type "int")
  | str (x : Str) : TyOf K H (.str x) (.type "str")
  | flt (x : UInt64) : TyOf K H (.flt x) (.type "float")
  | lst {a : Addr} {xs : List V} (e : H a = some (.lst xs)) : TyOf K H (.ref a) (.type "list")
  | frz {a : Addr} {o : Obj} {xs : List V} (e : H a = some (.frz o (.lst xs))) : TyOf K H (.ref a) (.type "list")
  | tup {a : Addr} {xs : List V} (e : H a = some (.tup xs)) : TyOf K H (.ref a) (.type "tuple")
  | dK {a : Addr} {kvs : List (Key × V)} (e : H a = some (.dK kvs)) : TyOf K H (.ref a) (.type "dict")
  | dT {a : Addr} {kvs : List (List Key × V)} (e : H a = some (.dT kvs)) : TyOf K H (.ref a) (.type "dict")
  | ins {a C dx : Addr} {fs : List (Str × V)} (e : H a = some (.ins C dx fs)) (cl : Cls K C) (ha : PySem.W.findIn K (.ref C) "__class__" = some (some (.builtin "object.__class__")))
      (hn : PySem.W.specialIn K (.builtin "object.__class__") "__get__" = some (some (.builtin "getset_descriptor.__get__"))) (htk : PySem.W.takesIn K (.builtin "object.__class__") = some true)
      (hm : PySem.W.mroIn K C (.type "object") = some true) : TyOf K H (.ref a) (.ref C)
/-- isinstance(x, c) for one class c, a built-in or an own one: kitOne's answer -/
theorem isinst_ok {x : V} {u t : Value} (I : Inv X pins σ H s) (rx : RelV x u) (ty : TyOf X.K H x t) (e : PySem.W.kitOne X.K t c = some b) (h : ∀ tk, Q (.bool b) { s with toks := tk }) :
    wpAny (model X.prog X.w) A (call (.builtin "isinstance") [u, c]) Q E s := by
  cases ty with
  | non => cases (show u = Value.none from rx); exact PySem.W.kia_one PySem.W.kitx_none I.kIn True.intro e (fun z => nomatch z) h
  | bl y => cases (show u = Value.bool y from rx); exact PySem.W.kia_one PySem.W.kitx_bool I.kIn True.intro e (fun z => nomatch z) h
  | int i => obtain ⟨t, q⟩ := (show ∃ t, u = Value.int i t from rx); cases q; exact PySem.W.kia_one PySem.W.kitx_int I.kIn True.intro e (fun z => nomatch z) h
  | str y => obtain ⟨t, q⟩ := (show ∃ t, u = Value.str y t from rx); cases q; exact PySem.W.kia_one PySem.W.kitx_str I.kIn True.intro e (fun z => nomatch z) h
  | flt y => obtain ⟨t, q⟩ := (show ∃ t, u = Value.float y t from rx); cases q; exact PySem.W.kia_one PySem.W.kitx_float I.kIn True.intro e (fun z => nomatch z) h
  | @lst a xs ea =>
    cases (show u = Value.ref a from rx)
    obtain ⟨_, _, n, _, h1⟩ := (show ObjOk X.prog X.w H s.heap a (.lst xs) from I.hok a _ ea)
    exact PySem.W.kia_one PySem.W.kitx_list I.kIn ⟨_, h1, rfl⟩ e (fun z => nomatch z) h
  | @frz a ob xs ea =>
    cases (show u = Value.ref a from rx)
    obtain ⟨_, _, _, n, _, h1⟩ := (show ObjOk X.prog X.w H s.heap a (.frz ob (.lst xs)) from I.hok a _ ea)
    exact PySem.W.kia_one PySem.W.kitx_list I.kIn ⟨_, h1, rfl⟩ e (fun z => nomatch z) h
  | @tup a xs ea =>
    cases (show u = Value.ref a from rx)
    obtain ⟨_, _, _, p⟩ := (show ObjOk X.prog X.w H s.heap a (.tup xs) from I.hok a _ ea)
    obtain ⟨o, h1, h2, _⟩ := p
    exact PySem.W.kia_one PySem.W.kitx_tuple I.kIn ⟨o, h1, h2⟩ e (fun z => nomatch z) h
  | @dK a kvs ea =>
    cases (show u = Value.ref a from rx)
    obtain ⟨_, _, vs, _, p⟩ := (show ObjOk X.prog X.w H s.heap a (.dK kvs) from I.hok a _ ea)
    obtain ⟨o, es, ep, h1, h2, _⟩ := p
    exact PySem.W.kia_one PySem.W.kitx_dict I.kIn ⟨o, h1, h2.1⟩ e (fun z => nomatch z) h
  | @dT a kvs ea =>
    cases (show u = Value.ref a from rx)
    obtain ⟨_, _, xs, _, o, es, ep, h1, h2, _⟩ := (show ObjOk X.prog X.w H s.heap a (.dT kvs) from I.hok a _ ea)
    exact PySem.W.kia_one PySem.W.kitx_dict I.kIn ⟨o, h1, h2.1⟩ e (fun z => nomatch z) h
  | @ins a C dx fs ea cl ha hn htk hm =>
    cases (show u = Value.ref a from rx)
    obtain ⟨mA, O, _⟩ := ins_get I.hok ea
    obtain ⟨od, J, _⟩ := O.look
    exact PySem.W.kia_one (PySem.W.kitx_own (cl.get _) cl.hd ha hn htk hm) I.kIn J e (fun z => nomatch z) h
end
end L2

namespace L2
open PySem PySem.Spec PyProof.Rows

/-! ### room -/
structure Room (k : Nat) (A : Around) : Prop where
  hd : A.handled = none
  dp : A.depth + 3 * k + 5 < recursionLimit
  un : A.units + 16 * k + 200 < cLine
theorem Room.mono {j k : Nat} {A : Around} (r : Room k A) (h : j ≤ k) : Room j A := ⟨r.hd, by have := r.dp; omega, by have := r.un; omega⟩
theorem Room.deeper {k : Nat} {A : Around} (r : Room (k + 1) A) (env : Env) : Room k (A.deeper env) :=
  ⟨r.hd, by have := r.dp; show A.depth + 1 + 3 * k + 5 < _; omega, by have := r.un; show A.units + 3 + 16 * k + 200 < _; omega⟩
theorem Room.depth {k : Nat} {A : Around} (r : Room k A) : A.depth < recursionLimit := by have := r.dp; omega
theorem Room.units {k : Nat} {A : Around} (r : Room k A) : A.units + 64 < cLine := by have := r.un; omega

/-! ### argument lists and displays -/
def tNil : TA := fun _ H Q => Q [] H
def tCons (ta : TE) (tr : TA) : TA := fun σ H Q => ta σ H fun x H1 => tr σ H1 fun xs H2 => Q (x :: xs) H2
section
variable {X : Cx} {e : Expr} {es : List Expr} {te : TE} {t : TA} {pos : Pos}
theorem pa_nil : PA X [] tNil := fun _ _ _ _ H Q I h => Calls.spliced_nil ⟨[], H, I, .nil, h⟩
theorem pa_cons (ha : PE X e te) (hr : PA X es t) (hs : starEach (e :: es) X.env = (false, eval e X.env) :: starEach es X.env := by rfl) : PA X (e :: es) (tCons te t) := by
  intro pos pins s σ H Q I h
  rw [hs]
  show wpAny _ _ (spliced ((false, eval e X.env) :: backTo pos (starEach es X.env))) _ _ s
  refine Calls.spliced_cons (thn (ha pins s σ H _ I h) fun u s1 ⟨x, H1, I1, r1, q1⟩ => ?_)
  exact thn (hr pos pins s1 σ H1 _ I1 q1) fun us s2 ⟨xs, H2, I2, r2, q2⟩ => ⟨x :: xs, H2, I2, .cons r1 r2, q2⟩

/-- a tuple, a list of written items -/
def tTup (t : TA) : TE := fun σ H Q => t σ H fun xs H1 => xs.length ≤ sizeLine ∧ ∀ p, H1 p = none → Q (.ref p) (upd H1 p (.tup xs))
def tLst (t : TA) : TE := fun σ H Q => t σ H fun xs H1 => xs.length ≤ sizeLine ∧ ∀ p, H1 p = none → Q (.ref p) (upd H1 p (.lst xs))
theorem pe_tup {x1} (h : PA X es t) : PE X (.Tuple es x1 pos) (tTup t) := by
  intro pins s σ H Q I hq
  refine wpAny_Tuple_spliced (thn (h pos pins s σ H _ I hq) fun us s1 ⟨xs, H1, I1, r, z, q⟩ => ⟨by rw [← r.length]; exact z, ?_⟩)
  have hf : H1 s1.heap.objs.size = none := I1.hok.fresh (Nat.le_refl _)
  refine ⟨.ref s1.heap.objs.size, upd H1 s1.heap.objs.size (.tup xs), I1.laid (t' := s1.toks) (fun b u e => Heap.get?_push_of_some _ e) (Nat.le_refl _) ?_, rfl, q _ hf⟩
  exact ⟨z, us, r, ⟨_, Heap.get?_push_size _ rfl, rfl, _, rfl⟩⟩
theorem pe_lst (h : PA X es t) : PE X (.List es pos) (tLst t) := by
  intro pins s σ H Q I hq
  refine wpAny_List_spliced (thn (h pos pins s σ H _ I hq) fun us s1 ⟨xs, H1, I1, r, z, q⟩ => ⟨by rw [← r.length]; exact z, ?_⟩)
  have hf : H1 s1.heap.objs.size = none := I1.hok.fresh (Nat.le_refl _)
  refine ⟨.ref s1.heap.objs.size, upd H1 s1.heap.objs.size (.lst xs), I1.laid (t' := s1.toks) (fun b u e => Heap.get?_push_of_some _ e) (Nat.le_refl _) ?_, rfl, q _ hf⟩
  exact ⟨z, us, 0, r, Heap.get?_push_size _ rfl⟩
end

/-! ### what a def promises -/
/-- a def's promise: the bound arguments in the parameters' order, the heap, the wanted end, the wanted exception -/
abbrev Sp := List V → Hp → VK → XK → Prop
/-- how an exception lies behind a call (file 08 gives it): the callers' frames, abstract heap and state ahead of the call, the wish, the exception, the state -/
abbrev CXT := List Env → Hp → Shared → XK → Value → Shared → Prop

/-- the state at a call -/
structure Env0 (P : Program) (w : World) (K : PySem.W.Frag) (mg : Str → Option Value) (base : Heap) (A : Around) (outer : List Env) (s : Shared) (H : Hp) : Prop where
  frames : A.frames = some outer
  mod : Mod K mg base
  bs : ∀ b o, base.get? b = some o → s.heap.get? b = some o ∧ H b = none
  bsz : base.objs.size ≤ s.heap.objs.size
  funs : s.heap.FunFrames base outer
  frf : ∀ b ∈ frs outer, H b = none
  hok : HOk P w H s.heap
  bare : AllBare s.gens
/-- a call's end -/
def CE (outer : List Env) (P : Program) (w : World) (H : Hp) (s : Shared) (Q : VK) (u : Value) (s' : Shared) : Prop :=
  ∃ v H', s'.os = s.os ∧ AllBare s'.gens ∧ Un (frs outer) [] H H' s.heap s'.heap ∧ HOk P w H' s'.heap ∧ RelV v u ∧ Q v H'
def CR (CX : CXT) (outer : List Env) (P : Program) (w : World) (H : Hp) (s : Shared) (Q : VK) (E : XK) (r : Result) (s' : Shared) : Prop :=
  match r with
  | .ok (.ret u) => CE outer P w H s Q u s'
  | .ok _ => False
  | .error e => CX outer H s E e s'
structure FnOk (P : Program) (w : World) (K : PySem.W.Frag) (mg : Str → Option Value) (base : Heap) (CX : CXT) (k : Nat) (f : Addr) (fd : FuncData) (ps : List Str) (sp : Sp) : Prop where
  len : ∀ vs H Q E, sp vs H Q E → vs.length = ps.length
  run : ∀ (A : Around) (outer : List Env) (s : Shared) (H : Hp) (args : Args) (us : List Value) (vs : List V) (Q : VK) (E : XK), Room k A → Env0 P w K mg base A outer s H → BindsTo s fd args (ps.zip us) → Vals vs us → sp vs H Q E →
    codeAny (model P w) A (.call (.ref f) args) (CR CX outer P w H s Q E) s


section
variable {X : Cx} {pins : List (Addr × Obj)} {σ : St} {H : Hp} {s s' : Shared}
/-- from a body: what a callee wants -/
theorem Inv.env0 (I : Inv X pins σ H s) : Env0 X.prog X.w X.K X.mg X.base X.A X.stack s H :=
  ⟨I.ok.frames, I.ok.mod, I.bs, Nat.le_trans I.ok.bsz I.sz, I.stack, I.stkFree, I.hok, I.bare⟩
/-- behind a call -/
theorem Inv.after {Q : VK} {u : Value} (I : Inv X pins σ H s) (h : CE X.stack X.prog X.w H s Q u s') : EP X pins σ Q u s' := by
  obtain ⟨v, H', os, bare, un, hok, r, q⟩ := h
  obtain ⟨hh, g, d, t, os'⟩ := s'
  obtain rfl : os' = s.os := os
  exact ⟨v, H', I.call (h' := hh) (g' := g) (d' := d) (t' := t) (ch := []) un hok bare (fun b z => absurd z (by simp)), r, q⟩
end

/-! ### calls -/
/-- f(..): the written arguments, then the defaults dvs; E: what is wanted of an exception -/
def tCall (sp : Sp) (dvs : List V) (E : XK) (t : TA) : TE := fun σ H Q => t σ H fun vs H1 => sp (vs ++ dvs) H1 Q E
/-- o.m(..) of an instance of the class at C -/
def tMeth (C : Addr) (m : Str) (sp : Sp) (dvs : List V) (E : XK) (ta : TE) (t : TA) : TE := fun σ H Q => ta σ H fun x H1 => ∃ a dx fs, x = .ref a ∧ H1 a = some (.ins C dx fs) ∧ fs.lookup m = none ∧
  t σ H1 fun vs H2 => sp (x :: (vs ++ dvs)) H2 Q E
/-- C(..): a new instance and its dict, then __init__ -/
def tMake (C : Addr) (sp : Sp) (dvs : List V) (E : XK) (t : TA) : TE := fun σ H Q => t σ H fun vs H1 => ∀ x dx, H1 x = none → H1 dx = none → dx ≠ x →
  sp (.ref x :: (vs ++ dvs)) (upd (upd H1 dx (.own x)) x (.ins C dx [])) (fun v H2 => v = .non ∧ Q (.ref x) H2) E

/-- how the parameters are bound: us the positional arguments, kw the keywords' values by name, ds the defaults that fill up -/
def Binds (K : PySem.W.Frag) (fd : FuncData) (ps : List Str) (ds : List Value) : Prop :=
  ∀ (s : Shared) (us : List Value), K.In s.heap → (us ++ ds).length = ps.length → BindsTo s fd ⟨us, []⟩ (ps.zip (us ++ ds))
/-- every parameter is given -/
theorem Binds.all {K : PySem.W.Frag} {fd : FuncData} {ps : List Str} (h : ∀ us : List Value, us.length = ps.length → bindArgs fd ⟨us, []⟩ = pure (ps.zip us)) : Binds K fd ps [] := fun s us _ hl => by
  rw [List.append_nil] at hl ⊢
  exact .of_eq (h us hl)

/-- an exception of a callee reaches what this body wants of exceptions -/
def Passes (CX : CXT) (X : Cx) (E : XK) : Prop := ∀ (pins : List (Addr × Obj)) (σ : St) (H : Hp) (s : Shared) (e : Value) (s' : Shared), Inv X pins σ H s → CX X.stack H s E e s' → X.xe e s'

section
variable {X : Cx} {CX : CXT} {k : Nat} {f C : Addr} {fd : FuncData} {ps : List Str} {sp : Sp} {dvs : List V} {ds : List Value} {E : XK} {x m : Str} {p pos apos : Pos} {e o : Expr} {es : List Expr} {ta : TE} {t : TA}

/-- the callee runs -/
theorem run_fn {pins : List (Addr × Obj)} {σ : St} {H : Hp} {s : Shared} {Q : VK} {us : List Value} {vs : List V} (F : FnOk X.prog X.w X.K X.mg X.base CX k f fd ps sp) (hr : Room k X.A) (hb : Binds X.K fd ps ds) (hd : Vals dvs ds) (hx : Passes CX X E)
    (I : Inv X pins σ H s) (r : Vals vs us) (h : sp (vs ++ dvs) H Q E) : wpAny (model X.prog X.w) X.A (call (.ref f) us) (EP X pins σ Q) X.xe s := by
  have r2 : Vals (vs ++ dvs) (us ++ ds) := r.append hd
  have hl : (us ++ ds).length = ps.length := by rw [← r2.length]; exact F.len _ _ _ _ h
  refine wpAny_call (codeAny_mono (F.run X.A X.stack s H ⟨us, []⟩ (us ++ ds) (vs ++ dvs) Q E hr I.env0 (hb s us I.kIn hl) r2 h) fun r s' hq => ?_)
  cases r with
  | error e => exact hx pins σ H s e s' I hq
  | ok fl =>
    cases fl with
    | ret u => exact I.after hq
    | next => exact False.elim hq
    | brk => exact False.elim hq
    | cont => exact False.elim hq

theorem pe_call (F : FnOk X.prog X.w X.K X.mg X.base CX k f fd ps sp) (hr : Room k X.A) (hg : Gl X x) (hm : X.mg x = some (.ref f)) (hk : PySem.W.keepIn X.K (.ref f) = true) (hb : Binds X.K fd ps ds) (hd : Vals dvs ds) (hx : Passes CX X E)
    (ha : PA X (e :: es) t) (hdb : (x == ("__debug__" : Str)) = false := by decide) (he : starEach (e :: es) X.env = (false, eval e X.env) :: starEach es X.env := by rfl) (hpl : (backTo pos (starEach es X.env)).any (·.1) = false := by rfl) :
    PE X (.Call (.Name x p) (e :: es) [] pos) (tCall sp dvs E t) := by
  intro pins s σ H Q I h
  refine wpAny_Call_Name_kw (ld_glob I hg hm ?_ hdb)
  refine PySem.W.callWith_K (h₀ := X.base) I.ok.mod.kin hk (thn (ha pos pins s σ H _ I h) fun us s1 ⟨vs, H1, I1, r, q⟩ => ⟨I1.kIn, ?_⟩) he hpl
  exact run_fn F hr hb hd hx I1 r q


/-- what a class must have to be made -/
structure Mk (K : PySem.W.Frag) (C f : Addr) : Prop where
  makes : PySem.W.makesIn K C = true
  init : PySem.W.findIn K (.ref C) "__init__" = some (some (.ref f))
  fn : PySem.W.isFn K (.ref f) = true
  kp : PySem.W.keepIn K (.ref C) = true

end

/-! ### keywords -/
/-- the values of the keywords, from the left -/
def PK (X : Cx) (kws : List Keyword) (t : TA) : Prop :=
  ∀ (pos : Pos) (pins : List (Addr × Obj)) (s : Shared) (σ : St) (H : Hp) (Q : List V → Hp → Prop), Inv X pins σ H s → t σ H Q → wpAny (model X.prog X.w) X.A (evalAll ((backToKw pos (keywordEach kws X.env)).map (·.2))) (AP X pins σ Q) X.xe s
section
variable {X : Cx} {CX : CXT} {k : Nat} {f C : Addr} {fd : FuncData} {ps ks : List Str} {sp : Sp} {E : XK} {x m : Str} {p pos apos kpos : Pos} {e o : Expr} {es : List Expr} {kws : List Keyword} {te ta : TE} {t tk : TA} {nm : Option Str}

/-- how a call with keywords binds: g puts the positional values us and the keywords' values ws (names ks) in the parameters' order, defaults among them -/
structure KBinds (K : PySem.W.Frag) (fd : FuncData) (ps ks : List Str) (g : List Value → List Value → List Value) (gV : List V → List V → List V) : Prop where
  to : ∀ (s : Shared) (us ws : List Value), K.In s.heap → (g us ws).length = ps.length → BindsTo s fd ⟨us, ks.zip ws⟩ (ps.zip (g us ws))
  rel : ∀ {vs : List V} {us : List Value} {zs : List V} {ws : List Value}, Vals vs us → Vals zs ws → Vals (gV vs zs) (g us ws)
def tCallK (sp : Sp) (gV : List V → List V → List V) (E : XK) (t tk : TA) : TE := fun σ H Q => t σ H fun vs H1 => tk σ H1 fun zs H2 => sp (gV vs zs) H2 Q E
variable {g : List Value → List Value → List Value} {gV : List V → List V → List V}
end

/-! ### a def's body keeps its promise -/
/-- names: the parameters first -/
structure FnScope (N P : List Str) (sc : Scope) : Prop where
  kind : sc.kind = .function
  co : sc.isCoroutine = false
  gen : sc.isGenerator = false
  nd : N.Nodup
  pre : N.take P.length = P
  par : ∀ x ∈ P, sc.names.lookup x = some .local ∨ sc.names.lookup x = some .cell
  nofree : ∀ y ∈ sc.names, y.2 ≠ .free

theorem bindL_out {kindOf : Str → Option NameKind} {x : Str} : ∀ {binds : List (Str × Value)} {m : Str → Option Value}, (∀ v, (x, v) ∉ binds) → bindL kindOf binds m x = m x
  | [], _, _ => rfl
  | (n, v) :: r, m, h => by
    unfold bindL
    rw [bindL_out fun w hw => h w (List.mem_cons_of_mem _ hw)]
    split
    · have : x ≠ n := by rintro rfl; exact h v List.mem_cons_self
      simp [this]
    · rfl
theorem bindC_out {kindOf : Str → Option NameKind} {x : Str} : ∀ {binds : List (Str × Value)} {m : Str → Option Value}, (∀ v, (x, v) ∉ binds) → bindC kindOf binds m x = m x
  | [], _, _ => rfl
  | (n, v) :: r, m, h => by
    unfold bindC
    rw [bindC_out fun w hw => h w (List.mem_cons_of_mem _ hw)]
    split
    · rfl
    · have : x ≠ n := by rintro rfl; exact h v List.mem_cons_self
      simp [this]
theorem bindL_get {kindOf : Str → Option NameKind} {x : Str} {v : Value} : ∀ {P : List Str} {vs : List Value} {i : Nat} {m : Str → Option Value}, P.Nodup → P[i]? = some x → vs[i]? = some v → kindOf x = some .local →
    bindL kindOf (P.zip vs) m x = some v
  | [], _, _, _, _, h, _, _ => by simp at h
  | _ :: _, [], _, _, _, _, h, _ => by simp at h
  | p :: P, w :: vs, 0, m, nd, h1, h2, hk => by
    simp at h1 h2; subst h1; subst h2
    show bindL kindOf ((p, w) :: P.zip vs) m p = _
    unfold bindL
    rw [bindL_out fun v hv => (List.nodup_cons.mp nd).1 (List.of_mem_zip hv).1, if_pos hk]
    simp
  | p :: P, w :: vs, i + 1, m, nd, h1, h2, hk => by
    show bindL kindOf ((p, w) :: P.zip vs) m x = _
    unfold bindL
    exact bindL_get (i := i) (List.nodup_cons.mp nd).2 (by simpa using h1) (by simpa using h2) hk
theorem bindC_get {kindOf : Str → Option NameKind} {x : Str} {v : Value} : ∀ {P : List Str} {vs : List Value} {i : Nat} {m : Str → Option Value}, P.Nodup → P[i]? = some x → vs[i]? = some v → kindOf x ≠ some .local →
    bindC kindOf (P.zip vs) m x = some v
  | [], _, _, _, _, h, _, _ => by simp at h
  | _ :: _, [], _, _, _, _, h, _ => by simp at h
  | p :: P, w :: vs, 0, m, nd, h1, h2, hk => by
    simp at h1 h2; subst h1; subst h2
    show bindC kindOf ((p, w) :: P.zip vs) m p = _
    unfold bindC
    rw [bindC_out fun v hv => (List.nodup_cons.mp nd).1 (List.of_mem_zip hv).1, if_neg hk]
    simp
  | p :: P, w :: vs, i + 1, m, nd, h1, h2, hk => by
    show bindC kindOf ((p, w) :: P.zip vs) m x = _
    unfold bindC
    exact bindC_get (i := i) (List.nodup_cons.mp nd).2 (by simpa using h1) (by simpa using h2) hk

/-- the names' values at the entry -/
def start (N : List Str) (vs : List V) : St := vs.map some ++ List.replicate (N.length - vs.length) none

/-- the context of a def's body, at its entry; an exception leaves the frame, then lies as CX says -/
def cxOf (CX : CXT) (P : Program) (w : World) (K : PySem.W.Frag) (mg : Str → Option Value) (base : Heap) (N : List Str) (qual : Str) (scope : Scope) (f : Addr) (cd : Value) (A : Around) (outer : List Env) (s : Shared) (H : Hp) (E : XK) : Cx where
  prog := P
  w := w
  K := K
  mg := mg
  base := base
  A := A.deeper (envOfC qual scope s.heap.objs.size f cd)
  N := N
  s₀ := s
  H₀ := H
  env := envOfC qual scope s.heap.objs.size f cd
  outer := outer
  stack := envOfC qual scope s.heap.objs.size f cd :: outer
  ex := []
  calm := true
  fn := fun _ => true
  pn := []
  xe := fun e s' => wpAny (model P w) (A.deeper (envOfC qual scope s.heap.objs.size f cd)) (leaving (envOfC qual scope s.heap.objs.size f cd) e) (fun _ s'' => CX outer H s E e s'') (fun e' s'' => CX outer H s E e' s'') s'

theorem cell_has {sc : Scope} {n : Nat} {x : Str} (h : sc.names.lookup x = some .cell) : ∃ c, (cellsFrom n sc.names []).lookup x = some c := by
  have q := PySem.W.cellsFrom_some sc.names n [] (.inl h)
  exact Option.isSome_iff_exists.mp q

theorem inv_start {CX : CXT} {P : Program} {w : World} {K : PySem.W.Frag} {mg : Str → Option Value} {base : Heap} {N ps : List Str} {qual : Str} {scope : Scope} {f : Addr} {cd : Value} {A : Around} {outer : List Env} {s s1 : Shared} {H : Hp} {E : XK} {us : List Value} {vs : List V}
    (S : FnScope N ps scope) (hd : A.handled = none) (e0 : Env0 P w K mg base A outer s H) (hl : vs.length = ps.length) (r : Vals vs us)
    (x : InCallC s s.heap.objs.size (bindL (envOfC qual scope s.heap.objs.size f cd).kindOf (ps.zip us) fun _ => none) (cellsFrom (s.heap.objs.size + 1) scope.names []) (bindC (envOfC qual scope s.heap.objs.size f cd).kindOf (ps.zip us) fun _ => none) s1) :
    Inv (cxOf CX P w K mg base N qual scope f cd A outer s H E) [] (start N vs) H s1 := by
  have hpl : ps.length ≤ N.length := by have := congrArg List.length S.pre; rw [List.length_take] at this; omega
  obtain ⟨h1, tk, rfl, hk⟩ := x.done
  have noA : ∀ b : Addr, b ∉ (cxOf CX P w K mg base N qual scope f cd A outer s H E).ex := fun b z => absurd (show b ∈ ([] : List Addr) from z) (by simp)
  refine ⟨⟨e0.mod, S.kind, rfl, rfl, Nat.le_refl _, fun y z c h1 h2 => ?_, fun y hy => ?_, fun y c _ h => ?_, fun _ => hd, Around.frames_deeper e0.frames, .inr ⟨rfl, rfl⟩, fun b z => absurd z (noA b), e0.bs, e0.bsz, fun b _ _ => noA b, fun b z => absurd z (noA b), e0.funs, e0.frf⟩,
    rfl, e0.bare, Un.kept hk, ⟨_, x.toInCall.ns, fun i y v h1 h2 h3 => ?_⟩, fun y c h => ⟨_, x.cell y c h⟩, e0.hok.fresh (Nat.le_refl _), fun y c h => ?_, fun p hp => absurd (show p ∈ ([] : List (Addr × Obj)) from hp) (by simp), e0.hok.kept hk, ?_⟩
  · exact name_of_addr x.apart (PySem.mem_of_lookup h1) (PySem.mem_of_lookup h2)
  · have hy : scope.names.lookup y = some .cell ∨ scope.names.lookup y = some .free := hy
    rcases hy with hy | hy
    · exact cell_has hy
    · exact absurd rfl (S.nofree _ (PySem.mem_of_lookup hy))
  · exact Nat.le_of_lt (x.above y c (PySem.mem_of_lookup h))
  · have hi : i < vs.length := by
      unfold start at h2
      by_cases hi : i < vs.length
      · exact hi
      · rw [List.getElem?_append_right (by simpa using hi)] at h2
        rw [List.getElem?_replicate] at h2
        split at h2 <;> cases h2
    have ha : vs[i]? = some v := by
      unfold start at h2
      rw [List.getElem?_append_left (by simpa using hi), List.getElem?_map] at h2
      cases e : vs[i]? with
      | none => rw [e] at h2; cases h2
      | some a => rw [e] at h2; cases h2; rfl
    obtain ⟨u, hu, rv⟩ := r.get ha
    have hp : ps[i]? = some y := by
      rw [← S.pre, List.getElem?_take_of_lt (by omega)]; exact h1
    have ndP : ps.Nodup := by rw [← S.pre]; exact S.nd.sublist (List.take_sublist _ _)
    refine ⟨u, rv, ?_⟩
    rcases S.par y (List.mem_of_getElem? hp) with k | k
    · exact .inl ⟨k, bindL_get ndP hp hu k⟩
    · obtain ⟨c, e⟩ := cell_has (n := s.heap.objs.size + 1) k
      refine .inr ⟨.inl k, c, e, ?_⟩
      have q := x.cell y c e
      rw [bindC_get ndP hp hu (by show scope.names.lookup y ≠ _; rw [k]; decide)] at q
      exact q
  · exact e0.hok.fresh (Nat.le_of_lt (x.above y c (PySem.mem_of_lookup h)))
  · unfold start
    show _ = N.length
    rw [List.length_append, List.length_map, List.length_replicate]
    omega

/-- THE RULE: a def (or a method) of the text, by its body. The body's reading t is chosen for each entry; it is run at the parameters' values -/
theorem fn_of {CX : CXT} {P : Program} {w : World} {K : PySem.W.Frag} {mg : Str → Option Value} {base : Heap} {k : Nat} {f : Addr} {name qual : Str} {params : Arguments} {body : List Stmt} {scope : Scope} {dV kV doc pm cdv ct oc : Value} {an od : Option Addr}
    {osl : Array (Option Value)} {N ps : List Str} {sp : Sp} (lk : K.lookup f = some ⟨oc, od, .func (PySem.W.fnOf name qual params body scope dV kV doc pm an cdv ct), osl⟩) (hcd : PySem.W.codeIn K cdv qual = true) (S : FnScope N ps scope)
    (len : ∀ vs H Q E, sp vs H Q E → vs.length = ps.length)
    (hbody : ∀ (A : Around) (outer : List Env) (s : Shared) (H : Hp) (vs : List V) (Q : VK) (E : XK), Room k (A.deeper (envOfC qual scope s.heap.objs.size f cdv)) → sp vs H Q E →
      ∃ t, PSs (cxOf CX P w K mg base N qual scope f cdv A outer s H E) body t ∧ t { nx := fun _ H' => Q .non H', rt := Q } (start N vs) H) :
    FnOk P w K mg base CX (k + 1) f (PySem.W.fnOf name qual params body scope dV kV doc pm an cdv ct) ps sp := by
  refine ⟨len, fun A outer s H args us vs Q E hr e0 hb r hsp => ?_⟩
  have hl := len _ _ _ _ hsp
  have KX : K.In s.heap := e0.mod.kin.keeps fun b o e => (e0.bs b o e).1
  have lim : s.heap.NoLimit := e0.mod.nolimit.keeps fun b o e => (e0.bs b o e).1
  have hkind : ∀ y ∈ ps.zip us, scope.names.lookup y.1 = some .local ∨ (scope.names.lookup y.1 = some .cell ∧ ((cellsFrom (s.heap.objs.size + 1) scope.names []).lookup y.1).isSome = true) := fun ⟨n, v⟩ hy => by
    rcases S.par n (List.of_mem_zip hy).1 with q | q
    · exact .inl q
    · exact .inr ⟨q, PySem.W.cellsFrom_some _ _ _ (.inl q)⟩
  refine codeAny_call_function hr.depth (KX _ _ lk) rfl S.co S.gen rfl (PySem.W.codeRec_of KX hcd) (hb _ _ _ _ ?_)
  refine wpAny_newFunctionEnv_cells S.kind hkind fun env he s1 x => ?_
  subst he
  refine ⟨lim.keeps x.toInCall.keep, codeAny_func ?_⟩
  obtain ⟨t, ht, hq⟩ := hbody A outer s H vs Q E (hr.deeper _) hsp
  have I : Inv (cxOf CX P w K mg base N qual scope f cdv A outer s H E) [] (start N vs) H s1 := inv_start S hr.hd e0 hl r x
  refine wpAny_mono (ht [] s1 (start N vs) H _ I hq) (fun fl s' hs => ?_) fun e s' hs => hs
  have fin : ∀ {σ' : St} {H' : Hp} {v : V} {u : Value}, Inv (cxOf CX P w K mg base N qual scope f cdv A outer s H E) [] σ' H' s' → RelV v u → Q v H' → CE outer P w H s Q u s' :=
    fun {σ' H' v u} J rv q => ⟨v, H', J.os, J.bare, J.base, J.hok, rv, q⟩
  cases fl with
  | ret u =>
    obtain ⟨v, σ', H', J, rv, q⟩ := hs
    exact fin J rv q
  | next =>
    obtain ⟨σ', H', J, q⟩ := hs
    exact fin (v := V.non) (u := Value.none) J rfl q
  | brk =>
    obtain ⟨_, _, _, q⟩ := hs
    exact False.elim q
  | cont =>
    obtain ⟨_, _, _, q⟩ := hs
    exact False.elim q
end L2

namespace L2
open PySem PySem.Spec PyProof.Rows
section
variable {X : Cx} {x : Str} {p pos : Pos} {e : Expr} {es : List Expr} {t : TA} {id T : String} {r : List V → Hp → VK → Prop}

def tCB (r : List V → Hp → VK → Prop) (t : TA) : TE := fun σ H Q => t σ H fun vs H1 => r vs H1 Q
/-- f(e, ..), f a built-in function -/
theorem pe_callB (hc : CallR X (.builtin id) r) (hg : Gl X x) (hm : X.mg x = none) (hv : bootBuiltins x = some (.builtin id)) (ha : PA X (e :: es) t) (hn : x ≠ "__name__" := by decide) (hdb : (x == ("__debug__" : Str)) = false := by decide)
    (he : starEach (e :: es) X.env = (false, eval e X.env) :: starEach es X.env := by rfl) (hpl : (backTo pos (starEach es X.env)).any (·.1) = false := by rfl) : PE X (.Call (.Name x p) (e :: es) [] pos) (tCB r t) := by
  intro pins s σ H Q I h
  refine wpAny_Call_Name_kw (ld_blt I hg hm hv ?_ hn hdb)
  exact PyProof.Rows.callWith_builtin1 (thn (ha pos pins s σ H _ I h) fun us s1 ⟨vs, H1, I1, r1, q1⟩ => hc pins s1 σ H1 vs us Q I1 r1 q1) he hpl
/-- T(e, ..), T a built-in type -/
theorem pe_callTy (hc : CallR X (.type T) r) (hg : Gl X x) (hm : X.mg x = none) (hv : bootBuiltins x = some (.type T)) (ha : PA X (e :: es) t) (hn : x ≠ "__name__" := by decide) (hdb : (x == ("__debug__" : Str)) = false := by decide)
    (he : starEach (e :: es) X.env = (false, eval e X.env) :: starEach es X.env := by rfl) (hpl : (backTo pos (starEach es X.env)).any (·.1) = false := by rfl) : PE X (.Call (.Name x p) (e :: es) [] pos) (tCB r t) := by
  intro pins s σ H Q I h
  refine wpAny_Call_Name_kw (ld_blt I hg hm hv ?_ hn hdb)
  exact PyProof.Rows.callWith_type1 (thn (ha pos pins s σ H _ I h) fun us s1 ⟨vs, H1, I1, r1, q1⟩ => hc pins s1 σ H1 vs us Q I1 r1 q1) he hpl
end
end L2

namespace HT
open PySem PyProof.Rows

/-- t < u of tuples of ints -/
def lexLt : List Int → List Int → Bool
  | [], [] => false
  | [], _ :: _ => true
  | _ :: _, [] => false
  | x :: xs, y :: ys => if x = y then lexLt xs ys else decide (x < y)
theorem lexLt_cons (x y : Int) (xs ys : List Int) : lexLt (x :: xs) (y :: ys) = if x = y then lexLt xs ys else decide (x < y) := rfl


section
open PySem.SeqAt
open PySem.AutoSeq1 (wpAny_loadPart')
open PySem.MeetsSeq PySem.MeetsSeq2 PySem.MeetsSeq3

end

section
variable {prog : Program} {w : World} {A : Around} {E : Value → Shared → Prop} {s : Shared}


/-- t + u, t not empty -/
theorem cat_tup {t b : Addr} {vs ws : List Value} {Q : Value → Shared → Prop} (ht : IsTup s.heap t vs.toArray) (hb : IsTup s.heap b ws.toArray) (hv : vs ≠ [])
    (h1 : ws = [] → Q (.ref t) s) (h2 : ws ≠ [] → Q (.ref s.heap.objs.size) { s with heap := s.heap.push { cls := .type "tuple", data := .seq (vs ++ ws).toArray } })
    (hsz : vs.length + ws.length ≤ sizeLine) : wpAny (model prog w) A (binaryOp .Add (.ref t) (.ref b)) Q E s := by
  obtain ⟨⟨cls, dd, data, sl⟩, ho, hc, n, hd⟩ := id ht
  obtain ⟨⟨cls2, dd2, data2, sl2⟩, ho2, hc2, n2, hd2⟩ := id hb
  simp only at hc hd hc2 hd2
  subst hc hd hc2 hd2
  have e : vs.toArray ++ ws.toArray = (vs ++ ws).toArray := by simp
  by_cases hw : ws = []
  · exact concat_meets ⟨_, ho, rfl⟩ ⟨_, ho2, rfl⟩ noFill_tuple_add seq_tuple_add PySem.F.slot_tuple_add PySem.F.entry_tuple_add (PySem.F.args_tuple_add_2 _ _)
      (tuple_addW1 t b vs.toArray ws.toArray n n2 dd dd2 sl sl2 (by simpa using hv) (by simp [hw])) ⟨ho, ho2, h1 hw⟩
  · refine concat_meets ⟨_, ho, rfl⟩ ⟨_, ho2, rfl⟩ noFill_tuple_add seq_tuple_add PySem.F.slot_tuple_add PySem.F.entry_tuple_add (PySem.F.args_tuple_add_2 _ _)
      (tuple_addW2 t b vs.toArray ws.toArray n n2 dd dd2 sl sl2 (by simpa using hv) (by simpa using hw) (by rw [List.size_toArray, List.size_toArray]; exact hsz)) ⟨ho, ho2, ?_⟩
    rw [e]
    exact h2 hw

/-! ### t[a:b], not the whole -/
/-- a slice's bound as a place among n (d where it is left out) -/
def sIx (n d : Nat) : Option Int → Nat
  | none => d
  | some v => if v < 0 then (v + (n : Int)).toNat else min v.toNat n

end
end HT

namespace L2
open PySem PySem.Spec PyProof.Rows

/-! ### the parts of a slice -/
abbrev TO := St → Hp → (Option Int → Hp → Prop) → Prop
/-- a slice's part (left out, or an int) -/
def PO (X : Cx) (e : Option Expr) (t : TO) : Prop :=
  ∀ (pins : List (Addr × Obj)) (s : Shared) (σ : St) (H : Hp) (Q : Option Int → Hp → Prop), Inv X pins σ H s → t σ H Q →
    wpAny (model X.prog X.w) X.A (evalPart e X.env) (fun u s' => ∃ o H', Inv X pins σ H' s' ∧ IsPart u o ∧ Q o H') X.xe s
def tNoPart : TO := fun _ H Q => Q none H
def tPart (t : TE) : TO := fun σ H Q => t σ H fun x H1 => ∃ i, x = .int i ∧ Q (some i) H1


section
variable {X : Cx} {e : Expr} {te : TE} {lo hi : Option Expr} {tl th : TO} {pos p2 : Pos}

theorem po_none : PO X none tNoPart := by
  intro pins s σ H Q I h
  rw [evalPart_none]
  exact wpAny_pure ⟨none, H, I, .none, h⟩
theorem po_some (h : PE X e te) : PO X (some e) (tPart te) := by
  intro pins s σ H Q I hw
  rw [evalPart_some]
  refine thn (h pins s σ H _ I hw) fun u s1 ⟨x, H1, I1, r1, q1⟩ => ?_
  obtain ⟨i, rfl, q⟩ := q1
  obtain ⟨t, rfl⟩ := r1
  exact ⟨some i, H1, I1, .int i t, q⟩

/-- what a slice of a value is, by values: the slice object stands at sl -/
def SlR (X : Cx) (r : V → Option Int → Option Int → Hp → VK → Prop) : Prop :=
  ∀ (pins : List (Addr × Obj)) (s : Shared) (σ : St) (H : Hp) (x : V) (v vl vu : Value) (lo hi : Option Int) (sl : Addr) (Q : VK), Inv X pins σ H s → RelV x v → s.heap.IsSliceOf sl vl vu .none → IsPart vl lo → IsPart vu hi → r x lo hi H Q →
    ∃ T id, typeLookup (.type T) "__getitem__" = pure (some (.builtin id)) ∧ s.TypeIs v T ∧ wpAny (model X.prog X.w) X.A (getItem v (.ref sl)) (EP X pins σ Q) X.xe s
def tSl (r : V → Option Int → Option Int → Hp → VK → Prop) (te : TE) (tl th : TO) : TE := fun σ H Q => te σ H fun x H1 => tl σ H1 fun l H2 => th σ H2 fun u H3 => r x l u H3 Q
/-- a[lo:hi], any a -/
theorem pe_slice {r : V → Option Int → Option Int → Hp → VK → Prop} (hr : SlR X r) (he : PE X e te) (hl : PO X lo tl) (hu : PO X hi th) : PE X (.Subscript e (.Slice lo hi none p2) pos) (tSl r te tl th) := by
  intro pins s σ H Q I h
  refine Subscript_ (thn (he pins s σ H _ I h) fun v s1 ⟨x, H1, I1, r1, q1⟩ => ?_)
  refine wpAny_Slice (thn (hl pins s1 σ H1 _ I1 q1) fun vl s2 ⟨l, H2, I2, pl, q2⟩ => thn (hu pins s2 σ H2 _ I2 q2) fun vu s3 ⟨u, H3, I3, pu, q3⟩ => ?_)
  rw [evalPart_none]
  refine wpAny_pure ?_
  have I4 : Inv X pins σ H3 { s3 with heap := s3.heap.push { cls := .type "slice", data := .fields #[vl, vu, .none] } } := I3.kept (t' := s3.toks) fun b ob q => Heap.get?_push_of_some _ q
  obtain ⟨T, id, hT, ht, hg⟩ := hr pins { s3 with heap := s3.heap.push { cls := .type "slice", data := .fields #[vl, vu, .none] } } σ H3 x v vl vu l u s3.heap.objs.size Q I4 r1 (Heap.IsSliceOf.new ..) pl pu q3
  show wpAny (model X.prog X.w) X.A (subscriptTail e (.Slice lo hi none p2) v (.ref s3.heap.objs.size)) (EP X pins σ Q) X.xe { s3 with heap := s3.heap.push { cls := .type "slice", data := .fields #[vl, vu, .none] } }
  exact tail_any (ops := [.ref s3.heap.objs.size, v]) ht hT hg (by with_unfolding_all rfl)

/-- the items of xs[lo:hi] -/
def cutV (xs : List V) (lo hi : Option Int) : List V := (xs.drop (HT.sIx xs.length 0 lo)).take (HT.sIx xs.length xs.length hi - HT.sIx xs.length 0 lo)
theorem cutV_length (xs : List V) (lo hi : Option Int) : (cutV xs lo hi).length ≤ xs.length := by
  unfold cutV
  rw [List.length_take, List.length_drop]
  omega
/-- t[lo:hi], not the whole of it (the whole would be t itself) -/
def rSlT (K : PySem.W.Frag) : V → Option Int → Option Int → Hp → VK → Prop := fun x lo hi H Q => ∃ a xs, x = .ref a ∧ SqT K H a xs ∧
  ¬ (HT.sIx xs.length 0 lo = 0 ∧ HT.sIx xs.length xs.length hi = xs.length) ∧ ∀ p, H p = none → Q (.ref p) (upd H p (.tup (cutV xs lo hi)))

/-! ### t < u, t + u -/
def rLtT (K : PySem.W.Frag) : R2 := fun x y H Q => ∃ a b ns ms, x = .ref a ∧ y = .ref b ∧ SqT K H a (ns.map V.int) ∧ SqT K H b (ms.map V.int) ∧ Q (.bl (HT.lexLt ns ms)) H
/-- t + u, t not empty: u empty gives t itself -/
def rCatT (K : PySem.W.Frag) : R2 := fun x y H Q => ∃ a b xs ys, x = .ref a ∧ y = .ref b ∧ SqT K H a xs ∧ SqT K H b ys ∧ xs ≠ [] ∧ xs.length + ys.length ≤ sizeLine ∧
  (ys = [] → Q (.ref a) H) ∧ (ys ≠ [] → ∀ p, H p = none → Q (.ref p) (upd H p (.tup (xs ++ ys))))
theorem Vals.nil_iff {xs : List V} {us : List Value} (r : Vals xs us) : us = [] ↔ xs = [] := by
  cases r with
  | nil => simp
  | cons _ _ => simp
theorem op_catT : OpR X (binaryOp .Add) (rCatT X.K) := by
  intro pins s σ H x y v u Q I rx ry h
  obtain ⟨a, b, xs, ys, rfl, rfl, ha, hb, hx, hz, q1, q2⟩ := h
  cases rx
  cases ry
  obtain ⟨its, r1, p1, _⟩ := I.tuple ha
  obtain ⟨its2, r2, p2, _⟩ := I.tuple hb
  refine HT.cat_tup p1 p2 (fun z => hx (r1.nil_iff.mp z)) (fun z => ⟨.ref a, H, I, rfl, q1 (r2.nil_iff.mp z)⟩) (fun z => ?_) (by rw [← r1.length, ← r2.length]; exact hz)
  refine ⟨.ref s.heap.objs.size, _, I.laid (t' := s.toks) (o := .tup (xs ++ ys)) (fun b ob q => Heap.get?_push_of_some _ q) (Nat.le_refl _) ?_, rfl, q2 (fun w => z (r2.nil_iff.mpr w)) _ (I.hok.fresh (Nat.le_refl _))⟩
  exact ⟨by rw [List.length_append]; exact hz, _, r1.append r2, IsTup.new _ _⟩
end
end L2

namespace L2
open PySem PySem.Spec PyProof.Rows

/-! ### places -/
/-- the place that an index of any sign means -/
def ixN (n : Nat) (i : Int) : Option Nat := if 0 ≤ i then (if i < n then some i.toNat else none) else if -(n : Int) ≤ i then some (i + n).toNat else none
def atI {α : Type} (xs : List α) (i : Int) : Option α := (ixN xs.length i).bind fun j => xs[j]?
theorem ixN_seq {n : Nat} {i : Int} {j : Nat} (h : ixN n i = some j) : seqIndex? i n = some j ∧ j < n ∧ -(n : Int) ≤ i ∧ i < n := by
  unfold ixN at h
  by_cases h0 : 0 ≤ i
  · rw [if_pos h0] at h
    by_cases h1 : i < n
    · rw [if_pos h1] at h
      have e : i.toNat = j := Option.some.inj h
      exact ⟨by rw [seqIndex_of h0 h1, e], by omega, by omega, h1⟩
    · rw [if_neg h1] at h; cases h
  · rw [if_neg h0] at h
    by_cases h1 : -(n : Int) ≤ i
    · rw [if_pos h1] at h
      have e : (i + n).toNat = j := Option.some.inj h
      exact ⟨by rw [seqIndex_neg (by omega) h1, e], by omega, h1, by omega⟩
    · rw [if_neg h1] at h; cases h
theorem atI_get {α : Type} {xs : List α} {i : Int} {v : α} (h : atI xs i = some v) : ∃ j, seqIndex? i xs.length = some j ∧ xs[j]? = some v ∧ j < xs.length ∧ -(xs.length : Int) ≤ i ∧ i < xs.length := by
  unfold atI at h
  cases e : ixN xs.length i with
  | none => rw [e] at h; cases h
  | some j =>
    rw [e] at h
    obtain ⟨h1, h2, h3, h4⟩ := ixN_seq e
    exact ⟨j, h1, h, h2, h3, h4⟩
theorem atI_nat {α : Type} {xs : List α} {j : Nat} {v : α} (h : xs[j]? = some v) : atI xs (j : Int) = some v := by
  have hj : j < xs.length := (List.getElem?_eq_some_iff.mp h).1
  have e : ixN xs.length (j : Int) = some j := by
    unfold ixN
    rw [if_pos (by omega), if_pos (by omega)]; simp
  unfold atI; rw [e]; exact h

/-! ### what may be subscripted -/
/-- what stands as an index of a plain subscript -/
def PlainIx (b : Expr) : Prop := ∀ o i, subscripted b false o i = operate [o, i] (getItem o i)
/-- a subscript by values -/
def IxR (X : Cx) (r : R2) : Prop :=
  ∀ (value slice : Expr) (pins : List (Addr × Obj)) (s : Shared) (σ : St) (H : Hp) (x y : V) (v u : Value) (Q : VK), Inv X pins σ H s → RelV x v → RelV y u → r x y H Q →
    subscripted slice false v u = operate [v, u] (getItem v u) → wpAny (model X.prog X.w) X.A (subscriptTail value slice v u) (EP X pins σ Q) X.xe s
/-- a call of a builtin's method by values: the receiver, the arguments -/
def MtR (X : Cx) (id : String) (r : V → List V → Hp → VK → Prop) : Prop :=
  ∀ (pins : List (Addr × Obj)) (s : Shared) (σ : St) (H : Hp) (x : V) (xs : List V) (v : Value) (us : List Value) (Q : VK), Inv X pins σ H s → RelV x v → Vals xs us → r x xs H Q →
    wpAny (model X.prog X.w) X.A (call (.builtin id) (v :: us)) (EP X pins σ Q) X.xe s
section
variable {X : Cx} {a b : Expr} {ta tb : TE} {pos : Pos}
/-- a[b] -/
theorem pe_ix {r : R2} (hr : IxR X r) (ha : PE X a ta) (hb : PE X b tb) (hs : PlainIx b) : PE X (.Subscript a b pos) (tOp r ta tb) := by
  intro pins s σ H Q I h
  exact Subscript_ (binT ha hb I h fun v u s2 x y H2 I2 rx ry q => hr a b pins s2 σ H2 x y v u Q I2 rx ry q (hs _ _))

def rIxL (K : PySem.W.Frag) : R2 := fun x y H Q => ∃ p xs i v, x = .ref p ∧ y = .int i ∧ SqL K H p xs ∧ atI xs i = some v ∧ Q v H
def rIxT (K : PySem.W.Frag) : R2 := fun x y H Q => ∃ p xs i v, x = .ref p ∧ y = .int i ∧ SqT K H p xs ∧ atI xs i = some v ∧ Q v H
def rIxS : R2 := fun x y H Q => ∃ z i c, x = .str z ∧ y = .int i ∧ z.length ≤ sizeLine ∧ atI z.cps.toList i = some c ∧ Q (.str ⟨#[c]⟩) H
theorem ix_list : IxR X (rIxL X.K) := by
  intro value slice pins s σ H x y v u Q I rx ry h hs
  obtain ⟨p, xs, i, z, rfl, rfl, hq, he, q⟩ := h
  cases rx
  obtain ⟨t, rfl⟩ := ry
  obtain ⟨its, r, pl, hz⟩ := I.list hq
  obtain ⟨j, h1, h2, h3, h4, h5⟩ := atI_get he
  obtain ⟨w, ew, rw'⟩ := r.get h2
  have hl := r.length
  have hn := line63
  have fin : EP X pins σ Q w s := ⟨z, H, I, rw', q⟩
  by_cases h0 : 0 ≤ i
  · have hj : i.toNat = j := by
      rw [seqIndex_of h0 h5] at h1
      exact Option.some.inj h1
    exact item_listR pl.isList h0 (by omega) (by rw [hj]; simpa using ew) fin hs
  · have hj : (i + (its.toArray.size : Int)).toNat = j := by
      rw [seqIndex_neg (by omega) h4] at h1
      rw [List.size_toArray, ← hl]
      exact Option.some.inj h1
    exact subscriptTail_builtinR (x := w) pl.isList.typeIs slot_list_getitem.lookup
      (wpAny_getItem_list_neg (Q := fun r s' => r = w ∧ EP X pins σ Q r s') pl.isList (by omega) (by rw [List.size_toArray] <;> omega) (by omega) (by rw [hj]; simpa using ew) ⟨rfl, fin⟩) hs
theorem ix_tup : IxR X (rIxT X.K) := by
  intro value slice pins s σ H x y v u Q I rx ry h hs
  obtain ⟨p, xs, i, z, rfl, rfl, hq, he, q⟩ := h
  cases rx
  obtain ⟨t, rfl⟩ := ry
  obtain ⟨its, r, pl, hz⟩ := I.tuple hq
  obtain ⟨j, h1, h2, h3, h4, h5⟩ := atI_get he
  obtain ⟨w, ew, rw'⟩ := r.get h2
  have hl := r.length
  have hn := line63
  have fin : EP X pins σ Q w s := ⟨z, H, I, rw', q⟩
  exact subscriptTail_builtinR (x := w) pl.typeIs slot_tuple_getitem.lookup
    (getItem_tuple (j := j) (Q := fun r s' => r = w ∧ EP X pins σ Q r s') pl (by omega) (by omega) (by rw [List.size_toArray, ← hl]; exact h1) (by simpa using ew) ⟨rfl, fin⟩) hs
theorem ix_str : IxR X rIxS := by
  intro value slice pins s σ H x y v u Q I rx ry h hs
  obtain ⟨z, i, c, rfl, rfl, hz, he, q⟩ := h
  obtain ⟨t, rfl⟩ := rx
  obtain ⟨t', rfl⟩ := ry
  obtain ⟨j, h1, h2, h3, h4, h5⟩ := atI_get he
  have hl : z.cps.toList.length = z.length := by simp [Str.length]
  rw [hl] at h1 h4 h5
  have hn := line63
  exact tail_any (typeIs_str s z t) slot_str_getitem.lookup (getItem_str (c := c) (by
    have e1 : decide (i < -(2 ^ 63 : Int)) = false := decide_eq_false (by omega)
    have e2 : decide (i ≥ 2 ^ 63) = false := decide_eq_false (by omega)
    rw [e1, e2, Bool.or_false]) (by rw [h1]; simpa using h2) ⟨.str ⟨#[c]⟩, H, I.tok _, ⟨_, rfl⟩, q⟩) hs
/-- list, tuple or str -/
def rIx (K : PySem.W.Frag) : R2 := fun x y H Q => rIxL K x y H Q ∨ rIxT K x y H Q ∨ rIxS x y H Q

/-! ### xs[i] = v, any sign -/
/-- the list's object behind a store -/
theorem mapSeq_set (its : List Value) (n j : Nat) (u : Value) : Obj.mapSeq (·.setIfInBounds j u) { cls := .type "list", data := .seq its.toArray n } = { cls := .type "list", data := .seq (its.set j u).toArray n } := by
  simp [Obj.mapSeq]
theorem Inv.lst {pins : List (Addr × Obj)} {σ : St} {H : Hp} {s : Shared} {p : Addr} {xs : List V} (I : Inv X pins σ H s) (h : H p = some (.lst xs)) :
    ∃ (its : List Value) (n : Nat), Vals xs its ∧ s.heap.get? p = some { cls := .type "list", data := .seq its.toArray n } ∧ xs.length ≤ sizeLine := by
  obtain ⟨z, its, n, r, e⟩ := I.hok p _ h
  exact ⟨its, n, r, e, z⟩
/-- the list at p is written by an update of its object -/
theorem Inv.lstUpd {pins : List (Addr × Obj)} {σ : St} {H : Hp} {s : Shared} {p : Addr} {xs ys : List V} {its its' : List Value} {n n' : Nat} {f : Obj → Obj} (I : Inv X pins σ H s) (h : H p = some (.lst xs))
    (ho : s.heap.get? p = some { cls := .type "list", data := .seq its.toArray n }) (hf : f { cls := .type "list", data := .seq its.toArray n } = { cls := .type "list", data := .seq its'.toArray n' }) (r : Vals ys its') (hz : ys.length ≤ sizeLine) (t : Nat) :
    Inv X pins σ (upd H p (.lst ys)) { s with heap := s.heap.update p f, toks := t } := by
  have e : (s.heap.update p f).get? p = some { cls := .type "list", data := .seq its'.toArray n' } := by
    rw [Heap.get?_update_self f ho (by rw [hf] <;> rfl), hf]
  refine I.write (x := p) (e := p) (by rw [h]; trivial) (.inl rfl) (fun b u hb q => (Heap.get?_update_other _ _ (Ne.symm hb)).trans q) ⟨_, e⟩ ?_
  exact ⟨hz, its', n', r, e⟩
def rSetL : V → V → V → Hp → (Hp → Prop) → Prop := fun o i v H Q => ∃ p xs k j, o = .ref p ∧ i = .int k ∧ H p = some (.lst xs) ∧ ixN xs.length k = some j ∧ Q (upd H p (.lst (xs.set j v)))
theorem set_list : PSet X rSetL := by
  intro pins s σ H o i v ov iv u Q I ro ri rv h
  obtain ⟨p, xs, k, j, rfl, rfl, hp, hj, q⟩ := h
  cases ro
  obtain ⟨t, rfl⟩ := ri
  obtain ⟨its, n, r, ho, hz⟩ := I.lst hp
  obtain ⟨h1, h2, h3, h4⟩ := ixN_seq hj
  have hl := r.length
  have hn := line63
  have I' : Inv X pins σ (upd H p (.lst (xs.set j v))) { s with heap := s.heap.update p (Obj.mapSeq (·.setIfInBounds j u)) } :=
    I.lstUpd hp ho (mapSeq_set its n j u) (r.set rv j) (by rw [List.length_set]; exact hz) s.toks
  by_cases h0 : 0 ≤ k
  · have hk : k.toNat = j := by
      rw [seqIndex_of h0 h4] at h1
      exact Option.some.inj h1
    exact PySem.W.ki_setAt ho h0 (by omega) (by rw [List.size_toArray, ← hl]; exact h4) (by rw [hk]; exact ⟨_, I', q⟩)
  · have hk : (k + (its.toArray.size : Int)).toNat = j := by
      rw [seqIndex_neg (by omega) h3] at h1
      rw [List.size_toArray, ← hl]
      exact Option.some.inj h1
    exact PySem.W.ki_setBack ho (by omega) (by rw [List.size_toArray, ← hl]; exact h3) (by omega) (by rw [hk]; exact ⟨_, I', q⟩)

/-! ### slices -/
theorem slice_bounds (lo hi : Option Int) (n : Nat) : (sliceBounds lo hi none n).1 = ((HT.sIx n 0 lo : Nat) : Int) ∧ (sliceBounds lo hi none n).2.1 = ((HT.sIx n n hi : Nat) : Int) ∧ (sliceBounds lo hi none n).2.2 = 1 := by
  refine ⟨?_, ?_, rfl⟩
  · cases lo with
    | none => simp [sliceBounds, HT.sIx]
    | some i =>
      simp only [sliceBounds, HT.sIx, Option.getD_none, show (1 : Int) > 0 by decide, if_true]
      by_cases h : i < 0
      · simp only [h, if_true] <;> omega
      · simp only [h, if_false] <;> omega
  · cases hi with
    | none => simp [sliceBounds, HT.sIx]
    | some i =>
      simp only [sliceBounds, HT.sIx, Option.getD_none, show (1 : Int) > 0 by decide, if_true]
      by_cases h : i < 0
      · simp only [h, if_true] <;> omega
      · simp only [h, if_false] <;> omega
theorem slicePick_cut (its : List Value) (lo hi : Option Int) : slicePick its.toArray lo hi none = ((its.drop (HT.sIx its.length 0 lo)).take (HT.sIx its.length its.length hi - HT.sIx its.length 0 lo)).toArray := by
  obtain ⟨h1, h2, h3⟩ := slice_bounds lo hi its.toArray.size
  unfold slicePick
  rw [h1, h2, h3]
  simp only [sliceRange_one, pick_run, List.size_toArray] <;> rfl
/-- xs[lo:hi] of a list: a new list -/
def rSlL (K : PySem.W.Frag) : V → Option Int → Option Int → Hp → VK → Prop := fun x lo hi H Q => ∃ a xs, x = .ref a ∧ SqL K H a xs ∧ ∀ p, H p = none → Q (.ref p) (upd H p (.lst (cutV xs lo hi)))
theorem sl_list : SlR X (rSlL X.K) := by
  intro pins s σ H x v vl vu lo hi sl Q I rx hs pl pu h
  obtain ⟨a, xs, rfl, hx, q⟩ := h
  cases rx
  obtain ⟨its, r, ht, hz⟩ := I.list hx
  have hlen := r.length
  refine ⟨"list", _, slot_list_getitem.lookup, ht.isList.typeIs, ?_⟩
  refine wpAny_getItem_list_slice ht.isList hs pl pu .none (by simp) ?_ (by rw [List.size_toArray] <;> omega)
  rw [slicePick_cut, ← hlen]
  refine ⟨.ref s.heap.objs.size, _, I.laid (t' := s.toks) (o := .lst (cutV xs lo hi)) (fun b ob q => Heap.get?_push_of_some _ q) (Nat.le_refl _) ?_, rfl, q _ (I.hok.fresh (Nat.le_refl _))⟩
  exact ⟨Nat.le_trans (cutV_length xs lo hi) hz, _, 0, (r.drop (HT.sIx xs.length 0 lo)).take (HT.sIx xs.length xs.length hi - HT.sIx xs.length 0 lo), Heap.get?_push_size _ rfl⟩

/-! ### in, not in: flat items -/
def flatV : V → Bool
  | .non => true
  | .bl _ => true
  | .int _ => true
  | .str _ => true
  | _ => false
/-- == of flat values -/
def eqV : V → V → Bool
  | .non, .non => true
  | .bl a, .bl b => a == b
  | .bl a, .int b => (if a then 1 else 0) == b
  | .int a, .bl b => a == (if b then 1 else 0)
  | .int a, .int b => a == b
  | .str a, .str b => a == b
  | _, _ => false
theorem eqAt_V {A : Around} {s : Shared} {y x : V} {u v : Value} (ry : RelV y u) (rx : RelV x v) (fy : flatV y = true) (fx : flatV x = true) : SeqAt.EqAt A s u v (eqV y x) := by
  cases y with
  | non =>
    cases ry
    cases x with
    | non => cases rx; exact SeqAt.EqAt.same _
    | bl b => cases rx; exact SeqAt.EqAt.none_bool b
    | int b => obtain ⟨t, rfl⟩ := rx; exact SeqAt.EqAt.none_int b t
    | str b => obtain ⟨t, rfl⟩ := rx; exact SeqAt.EqAt.none_str b t
    | _ => exact absurd (show false = true from fx) Bool.false_ne_true
  | bl a =>
    cases ry
    cases x with
    | non => cases rx; exact SeqAt.EqAt.bool_none a
    | bl b => cases rx; exact SeqAt.EqAt.bool_bool a b
    | int b => obtain ⟨t, rfl⟩ := rx; exact SeqAt.EqAt.bool_int a b t
    | str b => obtain ⟨t, rfl⟩ := rx; exact SeqAt.EqAt.bool_str a b t
    | _ => exact absurd (show false = true from fx) Bool.false_ne_true
  | int a =>
    obtain ⟨t', rfl⟩ := ry
    cases x with
    | non => cases rx; exact SeqAt.EqAt.int_none a t'
    | bl b => cases rx; exact SeqAt.EqAt.int_bool a t' b
    | int b => obtain ⟨t, rfl⟩ := rx; exact SeqAt.EqAt.int_int a t' b t
    | str b => obtain ⟨t, rfl⟩ := rx; exact SeqAt.EqAt.int_str a t' b t
    | _ => exact absurd (show false = true from fx) Bool.false_ne_true
  | str a =>
    obtain ⟨t', rfl⟩ := ry
    cases x with
    | non => cases rx; exact SeqAt.EqAt.str_none a t'
    | bl b => cases rx; exact SeqAt.EqAt.str_bool a t' b
    | int b => obtain ⟨t, rfl⟩ := rx; exact SeqAt.EqAt.str_int a t' b t
    | str b => obtain ⟨t, rfl⟩ := rx; exact SeqAt.EqAt.str_str a t' b t
    | _ => exact absurd (show false = true from fx) Bool.false_ne_true
  | _ => exact absurd (show false = true from fy) Bool.false_ne_true
/-- the items' answers, read off the values (a value's own answer does not lean on its token) -/
def eqU (x : V) (u : Value) : Bool := match u with
  | .none => eqV .non x
  | .bool b => eqV (.bl b) x
  | .int i _ => eqV (.int i) x
  | .str z _ => eqV (.str z) x
  | _ => false
def inV (x : V) (xs : List V) : Bool := xs.any fun y => eqV y x
/-- x in a list or tuple of flat items -/
def rIn (K : PySem.W.Frag) (neg : Bool) : R2 := fun x y H Q => ∃ p xs, y = .ref p ∧ (SqL K H p xs ∨ SqT K H p xs) ∧ flatV x = true ∧ xs.all flatV = true ∧ Q (.bl (if neg then !inV x xs else inV x xs)) H

/-! ### len, list(x), tuple(x) of any list or tuple that is read -/
theorem call_len_seq : CallR X (.builtin "len") (fun xs H Q => ∃ p ys, xs = [.ref p] ∧ (SqL X.K H p ys ∨ SqT X.K H p ys) ∧ Q (.int ys.length) H) := by
  intro pins s σ H xs us Q I r h
  obtain ⟨p, ys, rfl, hq, q⟩ := h
  obtain ⟨u, rfl, rx⟩ := vals1 r
  cases rx
  have hn := line63
  rcases hq with hq | hq
  · obtain ⟨its, r', pl, hz⟩ := I.list hq
    have hlen := r'.length
    exact Calls.call_len_list pl.isList (by simp only [List.size_toArray] <;> omega) ⟨.int ys.length, H, I.tok _, ⟨s.toks + 1, by rw [List.size_toArray, hlen]⟩, q⟩
  · obtain ⟨its, r', pl, hz⟩ := I.tuple hq
    have hlen := r'.length
    exact len_tuple pl (by simp only [List.size_toArray] <;> omega) ⟨.int ys.length, H, I.tok _, ⟨s.toks + 1, by rw [List.size_toArray, hlen]⟩, q⟩
theorem call_list_of : CallR X (.type "list") (fun xs H Q => ∃ p ys, xs = [.ref p] ∧ (SqL X.K H p ys ∨ SqT X.K H p ys) ∧ ∀ l, H l = none → Q (.ref l) (upd H l (.lst ys))) := by
  intro pins s σ H xs us Q I r h
  obtain ⟨p, ys, rfl, hq, q⟩ := h
  obtain ⟨u, rfl, rx⟩ := vals1 r
  cases rx
  have fin : ∀ (its : List Value), Vals ys its → ys.length ≤ sizeLine → ∀ (h' : Heap) (c' : Nat), (∀ b o', s.heap.get? b = some o' → h'.get? b = some o') →
      h'.get? s.heap.objs.size = some { cls := .type "list", dict := none, data := .seq its.toArray c', slots := #[] } → EP X pins σ Q (.ref s.heap.objs.size) { s with heap := h' } := fun its r' hz h' c' kp e =>
    ⟨.ref s.heap.objs.size, _, I.laid (t' := s.toks) kp (Nat.le_refl _) (show ObjOk X.prog X.w _ h' _ (.lst ys) from ⟨hz, its, c', r', e⟩), rfl, q _ (I.hok.fresh (Nat.le_refl _))⟩
  rcases hq with hq | hq
  · obtain ⟨its, r', pl, hz⟩ := I.list hq
    have hlen := r'.length
    obtain ⟨o, ho, hc, n, hd⟩ := pl.isList
    exact call_list_seq p (.inl rfl) ho hc hd (fun h' c' kp e => fin its r' hz h' c' kp e) (by simp only [List.size_toArray] <;> omega)
  · obtain ⟨its, r', pl, hz⟩ := I.tuple hq
    have hlen := r'.length
    obtain ⟨o, ho, hc, n, hd⟩ := pl
    exact call_list_seq p (.inr rfl) ho hc hd (fun h' c' kp e => fin its r' hz h' c' kp e) (by simp only [List.size_toArray] <;> omega)
theorem call_tuple_of : CallR X (.type "tuple") (fun xs H Q => ∃ p ys, xs = [.ref p] ∧ ((SqL X.K H p ys ∧ ∀ l, H l = none → Q (.ref l) (upd H l (.tup ys))) ∨ (SqT X.K H p ys ∧ Q (.ref p) H))) := by
  intro pins s σ H xs us Q I r h
  obtain ⟨p, ys, rfl, h⟩ := h
  obtain ⟨u, rfl, rx⟩ := vals1 r
  cases rx
  rcases h with ⟨hq, q⟩ | ⟨hq, q⟩
  · obtain ⟨its, r', pl, hz⟩ := I.list hq
    have hlen := r'.length
    refine call_tuple_list pl.isList (fun h' kp => ?_) (by simp only [List.size_toArray] <;> omega)
    have I1 : Inv X pins σ H { s with heap := h' } := I.kept (t' := s.toks) kp
    have I2 : Inv X pins σ (upd H h'.objs.size (.tup ys)) { s with heap := h'.push { cls := .type "tuple", data := .seq its.toArray } } :=
      I1.laid (t' := s.toks) (fun b o e => Heap.get?_push_of_some _ e) (Nat.le_refl _) (show ObjOk X.prog X.w _ _ _ (.tup ys) from ⟨hz, its, r', IsTup.new _ _⟩)
    exact ⟨.ref h'.objs.size, _, I2, rfl, q _ (I1.hok.fresh (Nat.le_refl _))⟩
  · obtain ⟨its, r', pl, hz⟩ := I.tuple hq
    exact call_tuple_same pl ⟨.ref p, H, I, rfl, q⟩

/-! ### the call of a builtin's method: o.m(..) -/
/-- the value is of that builtin type -/
def tyV (K : PySem.W.Frag) (T : String) (x : V) (H : Hp) : Prop := match x with
  | .str _ => T = "str"
  | .int _ => T = "int"
  | .ref p => (T = "list" ∧ ∃ xs, SqL K H p xs) ∨ (T = "tuple" ∧ ∃ o, K.lookup p = some o ∧ o.cls = .type "tuple" ∧ o.dict = none) ∨
      (T = "dict" ∧ ((∃ kvs, H p = some (.dK kvs)) ∨ ∃ kvs, H p = some (.dT kvs))) ∨ (T = "set" ∧ ∃ S n, H p = some (.set S n))
  | _ => False
theorem tyV_is {pins : List (Addr × Obj)} {σ : St} {H : Hp} {s : Shared} {T : String} {x : V} {v : Value} (I : Inv X pins σ H s) (r : RelV x v) (ty : tyV X.K T x H) :
    s.TypeIs v T ∧ ∀ a, v = .ref a → ∃ ob, s.heap.get? a = some ob ∧ ob.dict = none := by
  cases x with
  | str z =>
    obtain ⟨t, rfl⟩ := r
    cases (show T = "str" from ty)
    exact ⟨typeIs_str s z t, fun _ e => nomatch e⟩
  | int i =>
    obtain ⟨t, rfl⟩ := r
    cases (show T = "int" from ty)
    exact ⟨typeIs_int s i t, fun _ e => nomatch e⟩
  | ref p =>
    cases r
    rcases ty with ⟨rfl, xs, hq⟩ | ⟨rfl, o, hk, hc, hd⟩ | ⟨rfl, hk⟩ | ⟨rfl, S, n, hk⟩
    · obtain ⟨its, _, pl, _⟩ := I.list hq
      refine ⟨pl.isList.typeIs, fun a e => ?_⟩
      cases e
      obtain ⟨o, n, e, c, hd, _⟩ := pl
      exact ⟨o, e, hd⟩
    · refine ⟨⟨o, I.kIn p o hk, hc⟩, fun a e => ?_⟩
      cases e
      exact ⟨o, I.kIn _ o hk, hd⟩
    · have z : ∃ o, s.heap.get? p = some o ∧ o.ExactDict := by
        rcases hk with ⟨kvs, hk⟩ | ⟨kvs, hk⟩
        · obtain ⟨_, _, _, _, o, _, _, e, ex, _⟩ := I.hok p _ hk
          exact ⟨o, e, ex⟩
        · obtain ⟨_, _, _, _, o, _, _, e, ex, _⟩ := I.hok p _ hk
          exact ⟨o, e, ex⟩
      obtain ⟨o, e, ex⟩ := z
      refine ⟨⟨o, e, ex.1⟩, fun a e2 => ?_⟩
      cases e2
      exact ⟨o, e, ex.2.1⟩
    · obtain ⟨o, _, _, _, e, ex, _⟩ := I.hok p _ hk
      refine ⟨⟨o, e, ex.1⟩, fun a e2 => ?_⟩
      cases e2
      exact ⟨o, e, ex.2.1⟩
  | _ => exact False.elim ty
def tBM0 (K : PySem.W.Frag) (T : String) (r : V → List V → Hp → VK → Prop) (to : TE) : TE := fun σ H Q => to σ H fun x H1 => tyV K T x H1 ∧ r x [] H1 Q
def tBM (K : PySem.W.Frag) (T : String) (r : V → List V → Hp → VK → Prop) (to : TE) (t : TA) : TE := fun σ H Q => to σ H fun x H1 => tyV K T x H1 ∧ t σ H1 fun xs H2 => r x xs H2 Q
variable {o e : Expr} {es : List Expr} {to : TE} {t : TA} {name : Str} {apos cpos : Pos} {T id : String} {r : V → List V → Hp → VK → Prop}
theorem pe_bm0 (pa : PlainAttrs T) (slot : Slot T name id) (hty : typeOf (.builtin id) = pure (.type "method_descriptor")) (hm : MtR X id r) (ho : PE X o to)
    (hbase : attributeBase o name X.env (eval o X.env) = eval o X.env := by rfl) (hline : (apos.endLine == cpos.line) = true := by rfl) : PE X (.Call (.Attribute o name apos) [] [] cpos) (tBM0 X.K T r to) := by
  intro pins s σ H Q I h
  refine wpAny_Call_method0_late hbase hline (thn (ho pins s σ H _ I h) fun v s1 ⟨x, H1, I1, r1, ty, q1⟩ => ?_)
  obtain ⟨h1, h2⟩ := tyV_is I1 r1 ty
  exact ⟨T, id, pa, slot, hty, h1, h2, Calls.callWith_builtin rfl (PySem.evalArgs_none (hm pins s1 σ H1 x [] v [] Q I1 r1 .nil q1))⟩
theorem pe_bm (pa : PlainAttrs T) (slot : Slot T name id) (hty : typeOf (.builtin id) = pure (.type "method_descriptor")) (hm : MtR X id r) (ho : PE X o to) (ha : PA X (e :: es) t)
    (hbase : attributeBase o name X.env (eval o X.env) = eval o X.env := by rfl)
    (hfew : ((backTo cpos (starEach (e :: es) X.env)).all (fun x => !x.1) && (backToKw cpos (keywordEach [] X.env)).all (fun x => x.1.isSome)
      && decide ((e :: es).length + ([] : List Keyword).length + (if ([] : List Keyword).isEmpty then 0 else 1) < 30)) = true := by rfl)
    (hline : (apos.endLine == cpos.line) = true := by rfl) (hs : starEach (e :: es) X.env = (false, eval e X.env) :: starEach es X.env := by rfl) (hplain : (backTo cpos (starEach es X.env)).any (·.1) = false := by rfl) :
    PE X (.Call (.Attribute o name apos) (e :: es) [] cpos) (tBM X.K T r to t) := by
  intro pins s σ H Q I h
  refine wpAny_Call_method_late hbase hfew hline rfl (thn (ho pins s σ H _ I h) fun v s1 ⟨x, H1, I1, r1, ty, q1⟩ => ?_)
  obtain ⟨h1, h2⟩ := tyV_is I1 r1 ty
  refine ⟨T, id, pa, slot, hty, h1, h2, ?_⟩
  have hA := ha cpos pins s1 σ H1 _ I1 q1
  rw [hs] at hA ⊢
  refine Calls.callWith_builtin (by show (false || (backTo cpos (starEach es X.env)).any (·.1)) = false; rw [hplain] <;> rfl) (Calls.evalArgs_plain ?_)
  exact thn hA fun us s2 ⟨vs, H2, I2, r2, q2⟩ => hm pins s2 σ H2 x vs v us Q I2 r1 r2 q2
/- xs.append(e), list.index on a module's tuple .. are MtR facts of 06m -/
end
end L2

namespace L2
open PySem PySem.Spec PyProof.Rows

def MtM (X : Cx) (id : String) (r : V → List V → Hp → VK → Prop) : Prop :=
  ∀ (pins : List (Addr × Obj)) (s : Shared) (σ : St) (H : Hp) (x : V) (xs : List V) (v : Value) (us : List Value) (Q : VK), Inv X pins σ H s → RelV x v → Vals xs us → r x xs H Q →
    wpAny (model X.prog X.w) X.A (call (.builtin id) (v :: us)) (EP X pins σ Q) X.xe s

/-! ### lists of values -/
theorem Vals.one : ∀ {x : V} {us : List Value}, Vals [x] us → ∃ u, us = [u] ∧ RelV x u
  | _, _, .cons r .nil => ⟨_, rfl, r⟩
theorem Vals.zero : ∀ {us : List Value}, Vals [] us → us = []
  | _, .nil => rfl

section
variable {X : Cx} {pins : List (Addr × Obj)} {σ : St} {H : Hp} {s : Shared} {l b : Addr} {xs ys zs : List V}

/-! ### the two steps: a tracked list is rewritten, a new list is laid -/
theorem Inv.lset {its its' : List Value} {n : Nat} {f : Array Value → Array Value} {t' : Nat} (I : Inv X pins σ H s) (hH : H l = some (.lst xs))
    (e : s.heap.get? l = some { cls := .type "list", data := .seq its.toArray n }) (hf : f its.toArray = its'.toArray) (hv : Vals ys its') (hz : ys.length ≤ sizeLine) :
    Inv X pins σ (upd H l (.lst ys)) { s with heap := s.heap.update l (Obj.mapSeq f), toks := t' } := by
  have q := PySem.IsL.update e f
  rw [hf] at q
  refine I.write (x := l) (e := l) (by rw [hH]; exact trivial) (.inl rfl) (fun b' u hb hu => (Heap.get?_update_other s.heap (Obj.mapSeq f) (Ne.symm hb)).trans hu) ⟨_, q⟩ ?_
  exact ⟨hz, its', _, hv, q⟩
theorem Inv.lnew {its : List Value} {t' : Nat} (I : Inv X pins σ H s) (hv : Vals ys its) (hz : ys.length ≤ sizeLine) :
    Inv X pins σ (upd H s.heap.objs.size (.lst ys)) { s with heap := s.heap.push { cls := .type "list", data := .seq its.toArray }, toks := t' } :=
  I.laid (fun _ _ q => Heap.get?_push_of_some _ q) (Nat.le_refl _) ⟨hz, its, 0, hv, Heap.get?_push_size _ rfl⟩
theorem Inv.fresh (I : Inv X pins σ H s) : H s.heap.objs.size = none := I.hok.fresh (Nat.le_refl _)
theorem Inv.lstM (I : Inv X pins σ H s) (hH : H l = some (.lst xs)) : xs.length ≤ sizeLine ∧ ∃ (its : List Value) (n : Nat), Vals xs its ∧ xs.length = its.length ∧ s.heap.get? l = some { cls := .type "list", data := .seq its.toArray n } := by
  obtain ⟨z, its, n, r, e⟩ := I.hok l _ hH
  exact ⟨z, its, n, r, r.length, e⟩

end

section
variable {X : Cx}

/-! ### methods -/
def rAppend : V → List V → Hp → VK → Prop := fun x vs H Q => ∃ l xs y, x = .ref l ∧ vs = [y] ∧ H l = some (.lst xs) ∧ xs.length < sizeLine ∧ Q .non (upd H l (.lst (xs ++ [y])))
theorem mt_append : MtM X "list.append" rAppend := by
  intro pins s σ H x vs v us Q I rx rv h
  obtain ⟨l, xs, y, rfl, rfl, hH, hz, q⟩ := h
  cases rx
  obtain ⟨u, rfl, ru⟩ := rv.one
  obtain ⟨z, its, n, r, hl, e⟩ := I.lstM hH
  refine call_meets F.slot_list_append ⟨_, e, rfl⟩ F.entry_list_append (F.args_list_append_2 _ _) (PySem.list_append l its.toArray n u (by rw [List.size_toArray]; omega)) ⟨e, ?_⟩
  refine ⟨.non, _, I.lset (its' := its ++ [u]) hH e (by simp) (r.append (.cons ru .nil)) ?_, rfl, q⟩
  rw [List.length_append, List.length_singleton]
  omega

def rExtend : V → List V → Hp → VK → Prop := fun x vs H Q => ∃ l b xs zs, x = .ref l ∧ vs = [.ref b] ∧ H l = some (.lst xs) ∧ H b = some (.lst zs) ∧ xs.length + zs.length ≤ sizeLine ∧ Q .non (upd H l (.lst (xs ++ zs)))

def rPop : V → List V → Hp → VK → Prop := fun x vs H Q => ∃ l xs y, x = .ref l ∧ vs = [] ∧ H l = some (.lst xs) ∧ xs[xs.length - 1]? = some y ∧ Q y (upd H l (.lst xs.dropLast))

def rPopAt : V → List V → Hp → VK → Prop := fun x vs H Q => ∃ l xs i k y, x = .ref l ∧ vs = [.int i] ∧ H l = some (.lst xs) ∧ -(2 ^ 63) ≤ i ∧ i < 2 ^ 63 ∧ seqIndex? i xs.length = some k ∧ xs[k]? = some y ∧ Q y (upd H l (.lst (xs.eraseIdx k)))

def rReverse : V → List V → Hp → VK → Prop := fun x vs H Q => ∃ l xs, x = .ref l ∧ vs = [] ∧ H l = some (.lst xs) ∧ Q .non (upd H l (.lst xs.reverse))

def rClear : V → List V → Hp → VK → Prop := fun x vs H Q => ∃ l xs, x = .ref l ∧ vs = [] ∧ H l = some (.lst xs) ∧ Q .non (upd H l (.lst []))
theorem mt_clear : MtM X "list.clear" rClear := by
  intro pins s σ H x vs v us Q I rx rv h
  obtain ⟨l, xs, rfl, rfl, hH, q⟩ := h
  cases rx
  have hus := rv.zero
  subst hus
  obtain ⟨z, its, n, r, hl, e⟩ := I.lstM hH
  refine call_meets F.slot_list_clear ⟨_, e, rfl⟩ F.entry_list_clear (F.args_list_clear_1 _) (AutoSeq1.list_clear_list_0 l its.toArray n (by rw [List.size_toArray]; omega)) ⟨e, ?_⟩
  exact ⟨.non, _, I.lset (its' := []) (ys := []) hH e rfl .nil (Nat.zero_le _), rfl, q⟩

/-! ### list + list, list += list, list * int -/
def rCat : R2 := fun x y H Q => ∃ l b xs zs, x = .ref l ∧ y = .ref b ∧ H l = some (.lst xs) ∧ H b = some (.lst zs) ∧ xs.length + zs.length ≤ sizeLine ∧ ∀ p, H p = none → Q (.ref p) (upd H p (.lst (xs ++ zs)))
theorem op_cat : OpR X (binaryOp .Add) rCat := by
  intro pins s σ H x y v u Q I rx ry h
  obtain ⟨l, b, xs, zs, rfl, rfl, hH, hB, hz, q⟩ := h
  cases rx
  cases ry
  obtain ⟨z, its, n, r, hl, e⟩ := I.lstM hH
  obtain ⟨z2, its2, n2, r2, hl2, e2⟩ := I.lstM hB
  refine PySem.P.add_list e e2 ?_ (by rw [List.size_toArray, List.size_toArray]; omega)
  have ea : its.toArray ++ its2.toArray = (its ++ its2).toArray := by simp
  rw [ea]
  exact ⟨.ref _, _, I.lnew (t' := s.toks) (r.append r2) (by rw [List.length_append]; omega), rfl, q _ I.fresh⟩
/-- a list times an int (a negative one is nothing) -/
def rRep : R2 := fun x y H Q => ∃ l k xs, x = .ref l ∧ y = .int k ∧ H l = some (.lst xs) ∧ -(2 ^ 63) ≤ k ∧ k < 2 ^ 63 ∧ xs.length * k.toNat ≤ sizeLine ∧
  ∀ p, H p = none → Q (.ref p) (upd H p (.lst (List.replicate k.toNat xs).flatten))

/-! ### del xs[i] -/
end

/-! ### xs[a:b] = ys -/
section
variable {prog : Program} {w : World} {A : Around} {E : Value → Shared → Prop} {s : Shared}
set_option maxRecDepth 100000 in
end

section
variable {X : Cx}
end
end L2

namespace Att
open PySem PySem.W PySem.Calls PyProof.Rows

/-! ### the script -/
theorem ints_of_wellAll {P : Params} {h : Heap} : ∀ (ns : List Int) (vs : List Value), WellAll P h vs (ns.map WData.int) → IntsAre vs ns := by
  intro ns
  induction ns with
  | nil =>
    intro vs w
    rw [List.map_nil] at w
    cases w
    exact .nil
  | cons n ns ih =>
    intro vs w
    rw [List.map_cons] at w
    cases w with
    | cons a b =>
      cases a
      exact .cons _ _ (ih _ b)

theorem script_of {l : OpenLaw} {n : Nat} (hn : l.most = some n) {P : Params} {h : Heap} {args : List WData} {vals : List Value}
    (hpre : l.row.toRowW.claim.pre args = true) (hwl : WellAll P h vals args) :
    ∃ a vs ns, vals = [Value.ref a] ∧ args = [WData.list (ns.map WData.int)] ∧ h.get? a = some { cls := .type "list", data := .seq vs.toArray } ∧ IntsAre vs ns ∧ ns.length ≤ n := by
  have hsh : WShape.hasAll [] args [.list .int] = true := (pre_splitW hpre).1
  have hc : l.pre.holds [] { args := args } = true := (pre_splitW hpre).2
  obtain ⟨d, r, rfl, h1, h2⟩ := hasAllW_cons hsh
  obtain rfl := hasAllW_nil h2
  obtain ⟨xs, rfl, h3⟩ := hasW_list h1
  obtain ⟨ns, rfl⟩ := items_int h3
  have hlen : ns.length ≤ n := by
    unfold OpenLaw.pre at hc
    have h4 : (WTm.not (.lt (.lit (.int (n : Int))) (.len (.arg 0)))).holds [] { args := [.list (ns.map .int)] } = true := by
      have h4 := (holds_andW hc).1
      rw [hn] at h4
      exact h4
    have h5 := condW_of h4 (w_not (w_lt w_lit (w_len_list (w_arg rfl))))
    rw [List.length_map] at h5
    refine Nat.le_of_not_lt fun q => ?_
    have q' : (n : Int) < ((ns.length : Nat) : Int) := by omega
    first
      | (rw [decide_eq_true q'] at h5; exact absurd h5 (by decide))
      | (simp at h5; omega)
  cases hwl with
  | cons w1 w2 =>
    cases w2
    cases w1 with
    | list ho hall => exact ⟨_, _, ns, rfl, rfl, ho, ints_of_wellAll ns _ hall, hlen⟩

theorem post_true (l : OpenLaw) (args : List WData) : l.row.toRowW.claim.post args (.bool true) args = true :=
  postW_of (r := l.row.toRowW) (X := (true == true))
    (show WShape.has [] (.bool true) .bool = true by first | rfl | decide | simp [WShape.has, WShape.arms, WShape.armsAll])
    (show (WTm.eq .res (.lit (.bool true))).value [] { args := args, res := some (.bool true), after := args } = some (.bool (true == true)) from w_eq_bool (w_res rfl) w_lit) rfl

/-! ### the attachment: holds_open's last premise (the goal 'hc' behind k_head) from a wpAny of the law's body -/

/-- the same from a codeAny of the CALL (for a layer whose function contracts speak of calls) -/
theorem attach_call {l : OpenLaw} {n : Nat} {q : Program} {loose : List Str} {XP : (Str → Option Value) → Heap → Prop} {YP : World → Heap → Prop} {d : DefRec}
    (hn : l.most = some n) (hdf : d.params.defaults = [])
    (call : ∀ (w : World) (s₀ s₁ : Shared) (mg mb : Str → Option Value) (fa : Addr) (o : Obj) (pm cd doc : Value) (a : Addr) (vs : List Value) (ns : List Int),
      Ground q loose [] XP w s₀ mg mb s₁.heap → YP w s₁.heap →
      s₁.heap.get? fa = some o → o.data = .func (docDef d.name d.params d.body d.scope pm cd doc) → s₁.heap.CodeRec cd d.name → mg d.name = some (.ref fa) →
      s₁.heap.get? a = some { cls := .type "list", data := .seq vs.toArray } → IntsAre vs ns → ns.length ≤ n → s₁.gens = #[] →
      codeAny (model l.prog w) callerA (.call (.ref fa) ⟨[.ref a], []⟩) (fun r s' => r = .ok (.ret (.bool true)) ∧ OldK s₁.heap s'.heap ∧ s'.os = s₁.os ∧ AllBare s'.gens) s₁) :
    WalkO q loose XP YP l.row.toRowW d [] (fun f vs => PySem.call f vs) := by
  intro w s₀ s₁ mg mb G Y fa o pm cd doc dV kV ho hd hcd hD hmg hg args vals as hpre hlay hrd hwl hlo
  obtain rfl : dV = .none := Dflts.none hD hdf
  obtain rfl : kV = .none := Dflts.noKw hD
  obtain ⟨a, vs, ns, rfl, rfl, hobj, hints, hlen⟩ := script_of hn hpre hwl
  refine enter_call (codeAny_mono (call w s₀ s₁ mg mb fa o pm cd doc a vs ns G Y ho (fd_plain hd) hcd hmg hobj hints hlen hg) fun r s' hq => ?_)
  obtain ⟨rfl, h2, h3, h4⟩ := hq
  exact ⟨.inl ⟨.bool true, .bool true, [], rfl, fun _ => rfl, .bool true, post_true l _, fun _ => ⟨List.Pairwise.nil, fun _ hm => (nomatch hm)⟩⟩, h2, h3, h4⟩


/-! ### rules over ANY heap (no ledger) from facts about the written part K: the library's own take a ledger (News) for what they write -/
section
variable {prog : Program} {w : World} {A : Around} {E : Value → Shared → Prop} {s : Shared} {K : Frag}





/-! the whole heap as the ledger: makes every rule that writes through a ledger a rule over any heap -/
def noObjs (h : Heap) : Heap := { h with objs := #[] }
def ledger (h : Heap) (L d : Addr) : List (Addr × Obj) := (List.range h.objs.size).filterMap fun a => if a = L ∨ a = d then none else (h.get? a).map fun o => (a, o)

end
end Att

namespace L2
open PySem PySem.Spec PyProof.Rows

theorem vals_ints : ∀ {vs : List Value} {ns : List Int}, IntsAre vs ns → Vals (ns.map V.int) vs
  | _, _, .nil => .nil
  | _, _, .cons n t h => .cons ⟨t, rfl⟩ (vals_ints h)

/-- nothing is tracked but the script, known to the object (or it is an object of the module) -/
def Only (H : Hp) : Prop := ∀ b, H b = none ∨ ∃ o xs, H b = some (.frz o (.lst xs))

/-- THE HEAD: the law's promise, at the heap behind the top. F, the promise of the law's def, may use that base is part of the heap (so K.In base, base.Ns mainGlobals mg stand in Mod) -/
theorem law_call {P : Program} {w : World} {K : PySem.W.Frag} {mg mb : Str → Option Value} {CX : CXT} {k : Nat} {fa a : Addr} {fd : FuncData} {x : Str} {sp : Sp} {s₁ : Shared} {vs : List Value} {ns : List Int}
    (KX : K.In s₁.heap) (hns : s₁.heap.Ns mainGlobals mg) (hb : s₁.heap.Ns builtinsNs mb) (hbb : ∀ x : Str, x ≠ "__name__" → mb x = bootBuiltins x) (hlim : s₁.heap.NoLimit) (hg : s₁.gens = #[])
    (ha : s₁.heap.get? a = some { cls := .type "list", data := .seq vs.toArray }) (hi : IntsAre vs ns) (hl : ns.length ≤ sizeLine) (hr : Room k callerA)
    (F : ∀ base : Heap, K.In base → base.Ns mainGlobals mg → FnOk P w K mg base CX k fa fd [x] sp) (hbind : ∀ (s : Shared) (u : Value), BindsTo s fd ⟨[u], []⟩ [(x, u)])
    (hsp : ∀ H : Hp, Only H → SqL K H a (ns.map V.int) → sp [.ref a] H (fun v _ => v = .bl true) fun _ _ _ => False)
    (hCX : ∀ H e s', CX [] H s₁ (fun _ _ _ => False) e s' → False) :
    codeAny (model P w) callerA (.call (.ref fa) ⟨[.ref a], []⟩) (fun r s' => r = .ok (.ret (.bool true)) ∧ OldK s₁.heap s'.heap ∧ s'.os = s₁.os ∧ AllBare s'.gens) s₁ := by
  have rv := vals_ints hi
  have lenV := hi.length
  -- from an abstract heap in which nothing but the script may be tracked
  have core : ∀ H : Hp, Only H → SqL K H a (ns.map V.int) → HOk P w H s₁.heap → (∀ b, H b ≠ none → b = a) → (H a ≠ none → K.lookup a = none) →
      codeAny (model P w) callerA (.call (.ref fa) ⟨[.ref a], []⟩) (fun r s' => r = .ok (.ret (.bool true)) ∧ OldK s₁.heap s'.heap ∧ s'.os = s₁.os ∧ AllBare s'.gens) s₁ := by
    intro H hO hS hok hA hK
    have base_of : ∀ {b : Addr} {o : Obj}, s₁.heap.get? b = some o → H b = none → (hidT s₁.heap H).get? b = some o := fun e n => hidT_get e n
    have noA : ∀ {b : Addr} {o : Obj} {es : Array DictEntry} {ep : Nat}, s₁.heap.get? b = some o → o.data = .dict es ep → H b = none := fun {b o es ep} e d => by
      cases q : H b with
      | none => rfl
      | some u =>
        have e' : b = a := hA b (by rw [q]; simp)
        subst e'
        rw [ha] at e; cases e
        have d' : Data.seq vs.toArray _ = Data.dict es ep := d
        cases d'
    have nsK : ∀ {b : Addr} {m : Str → Option Value}, s₁.heap.Ns b m → (hidT s₁.heap H).Ns b m := fun {b m} ⟨o, es, ep, e, d, r⟩ => ⟨o, es, ep, base_of e (noA e d), d, r⟩
    have hKb : K.In (hidT s₁.heap H) := fun b o e => base_of (KX b o e) (by
      cases q : H b with
      | none => rfl
      | some u =>
        have e' : b = a := hA b (by rw [q]; simp)
        subst e'
        rw [hK (by rw [q]; simp)] at e; cases e)
    have hM : Mod K mg (hidT s₁.heap H) := ⟨hKb, nsK hns, ⟨mb, nsK hb, hbb⟩, let ⟨mc, h1, h2⟩ := hlim; ⟨mc, nsK h1, h2⟩⟩
    have e0 : Env0 P w K mg (hidT s₁.heap H) callerA [] s₁ H := ⟨rfl, hM, fun b o e => of_hidT e, Nat.le_of_eq (hidT_size _ _), trivial, fun b hb => absurd (show b ∈ ([] : List Addr) from hb) (by simp), hok, .of_eq hg⟩
    refine codeAny_mono ((F _ hKb (nsK hns)).run callerA [] s₁ H ⟨[.ref a], []⟩ [.ref a] [.ref a] _ _ hr e0 (hbind s₁ (.ref a)) (.cons rfl .nil) (hsp H hO hS)) fun r s' h => ?_
    cases r with
    | error e => exact (hCX H e s' h).elim
    | ok fl =>
      cases fl with
      | next => exact False.elim h
      | brk => exact False.elim h
      | cont => exact False.elim h
      | ret u =>
        obtain ⟨v, H', os, bare, un, hok', r', q⟩ := h
        have q' : v = .bl true := q
        subst q'
        obtain rfl : u = Value.bool true := r'
        refine ⟨rfl, OldK.of_keep fun b o e => ?_, os, bare⟩
        cases q : H b with
        | none => exact un.keep b o e q (by intro z; exact absurd (show b ∈ ([] : List Addr) from z) (by simp)) (by simp)
        | some u =>
          rcases hO b with z | ⟨ob, xs, z⟩
          · rw [q] at z; cases z
          · have z2 := un.frzs b ob _ z
            obtain ⟨e1, _⟩ := hok b _ z
            obtain ⟨e2, _⟩ := hok' b _ z2
            rw [e] at e1; cases e1
            exact e2
  cases hk : K.lookup a with
  | some o =>
    -- the script is one of the module's own objects
    have e := KX a o hk
    rw [ha] at e
    cases e
    refine core (fun _ => none) (fun _ => .inl rfl) (.inr ⟨_, vs.toArray, _, hk, rfl, rfl, rfl, by rw [List.size_toArray, lenV]; exact hl, by simpa using rv⟩) (fun b u z => by have z' : (none : Option HO) = some u := z; cases z') (fun b z => absurd rfl z) fun z => absurd rfl z
  | none =>
    refine core (fun b => if b = a then some (.frz { cls := .type "list", data := .seq vs.toArray } (.lst (ns.map V.int))) else none) (fun b => ?_) (.inl (.inr ⟨{ cls := .type "list", data := .seq vs.toArray }, if_pos rfl⟩)) (fun b u z => ?_) (fun b z => ?_) fun _ => hk
    · by_cases hb : b = a
      · exact .inr ⟨_, _, if_pos hb⟩
      · exact .inl (if_neg hb)
    · by_cases hb : b = a
      · have z' := (if_pos hb).symm.trans z
        cases z'
        subst hb
        exact ⟨ha, by rw [List.length_map]; exact hl, vs, _, rv, ha⟩
      · have z' := (if_neg hb).symm.trans z
        cases z'
    · by_cases hb : b = a
      · exact hb
      · exact absurd (if_neg hb) z
end L2

namespace L2
open PySem PySem.Spec PyProof.Rows

abbrev KOf {K : PySem.W.Frag} {h : Heap} (_ : K.In h) : PySem.W.Frag := K

/-- the goal that k_head leaves (case hc), from the law's promise. F gives the function object fd (K's own) once, then the promise over every base -/
theorem walk_of {l : PySem.W.OpenLaw} {n k : Nat} {q : Program} {loose : List Str} {XP : (Str → Option Value) → Heap → Prop} {YP : World → Heap → Prop} {d : DefRec} {K : Params → PySem.W.Frag} {CX : World → CXT} {sp : World → Sp} {x : Str}
    (hn : l.most = some n) (hn2 : n ≤ sizeLine) (hdf : d.params.defaults = []) (hr : Room k callerA)
    (hY : ∀ (w : World) (h : Heap), YP w h → (K w.params).In h)
    (F : ∀ (w : World) (mg : Str → Option Value) (fa : Addr) (h : Heap), (K w.params).In h → h.Ns mainGlobals mg → mg d.name = some (.ref fa) →
      ∃ fd : FuncData, (∀ (s : Shared) (u : Value), BindsTo s fd ⟨[u], []⟩ [(x, u)]) ∧
        ∀ base : Heap, (K w.params).In base → base.Ns mainGlobals mg → FnOk l.prog w (K w.params) mg base (CX w) k fa fd [x] (sp w))
    (hsp : ∀ (w : World) (H : Hp) (a : Addr) (ns : List Int), ns.length ≤ n → Only H → SqL (K w.params) H a (ns.map V.int) → sp w [.ref a] H (fun v _ => v = .bl true) fun _ _ _ => False)
    (hCX : ∀ (w : World) (H : Hp) (s : Shared) (e : Value) (s' : Shared), CX w [] H s (fun _ _ _ => False) e s' → False) :
    PySem.W.WalkO q loose XP YP l.row.toRowW d [] (fun f vs => PySem.call f vs) := by
  refine Att.attach_call hn hdf fun w s₀ s₁ mg mb fa o pm cd doc a vs ns G Y ho hd hcd hmg hobj hints hlen hg => ?_
  have KX := hY w _ Y
  obtain ⟨fd, hb, hF⟩ := F w mg fa _ KX G.T.g hmg
  exact law_call KX G.T.g G.T.b G.T.builtins G.T.nolimit hg hobj hints (Nat.le_trans hlen hn2) hr hF hb (fun H hO hS => hsp w H a ns hlen hO hS) fun H e s' => hCX w H s₁ e s'
end L2

/- THE LAST THEOREM (shape; LID, My.* are yours):
   My.Adr: a structure of the addresses that your layer names (classes, functions); My.Txt K t: a structure (Prop) of the equations over K;
   My.txt_mk : {K} {implicit addresses ..} (e1 : nsIn K mainGlobals "law" = some (some (.ref f))) (e2 : K.lookup f = some ⟨oc, od, .func (fnOf "law" "law" params body scope dV kV doc pm an cdv ct), sl⟩) (e3 : codeIn K cdv "law" = true) .. : ∃ t, My.Txt K t

set_option maxRecDepth 100000 in
set_option maxHeartbeats 0 in
theorem PySem.Challenge.cw_LID_holds : PySem.Challenge.rw_LID.Holds := by
  w_on; o_law; k_head; (case hw => w_witness2)
  k_fill
  refine L2.walk_of (l := PySem.Challenge.rw_LID) (n := 63) (k := 40) (x := "script") (CX := fun w => ..) (sp := fun _ => My.sp_law) rfl (by decide) rfl ⟨rfl, by decide, by decide⟩ (fun w h Y => PySem.W.kIn_of Y) ?F ?S ?C
  case F =>
    intro w mg fa h KX G hmg
    have T : ∃ t, My.Txt (L2.KOf KX) t := by
      dsimp only [L2.KOf]                          -- K must stand as «<heap const> w.params» for k_is
      refine' My.txt_mk ?e1 ?e2 ?e3 ..
      (case e1 => PySem.W.k_is)                    -- in the order: a name -> its address -> its object -> its parts
      (case e2 => PySem.W.k_is)
      ..
    obtain ⟨t, T⟩ := T
    have e0 := hmg.symm.trans (PySem.W.mg_of KX G T.law)
    cases e0                                       -- fa is the law's own address
    exact ⟨_, fun s u => .of_eq rfl, fun base kb nb => My.law_fn T kb nb⟩     -- if «.of_eq rfl» comes too early: refine' ⟨_, ?b, fun base kb nb => My.law_fn T kb nb⟩; exact fun s u => .of_eq rfl
  case S => exact fun w H a ns hl hO hS => ..
  case C => exact ..
(the tactic k_is has no namespace: write k_is) -/

/-! SHORT WORDS over the layer: a def of the text, its body, what a loop and a test want. -/
namespace L2
open PySem PySem.Spec PyProof.Rows

/-! ### the text by places -/
/-- the j-th statement of a class's body -/
def inClass (s : Stmt) (j : Nat) : Stmt := match s with
  | .ClassDef _ _ _ body _ _ _ _ _ _ _ => body.getD j (.Pass ⟨0, 0, 0, 0⟩)
  | _ => .Pass ⟨0, 0, 0, 0⟩
def defArgs (s : Stmt) : Arguments := match s with
  | .FunctionDef _ a _ _ _ _ _ _ _ _ => a
  | _ => { posonlyargs := [], args := [], vararg := none, kwonlyargs := [], kw_defaults := [], kwarg := none, defaults := [] }
def defBody (s : Stmt) : List Stmt := match s with
  | .FunctionDef _ _ b _ _ _ _ _ _ _ => b
  | _ => []
def defScope (s : Stmt) : Scope := match s with
  | .FunctionDef _ _ _ _ _ _ sc _ _ _ => sc
  | _ => { kind := .function, names := [], isGenerator := false, isCoroutine := false }

/-! ### no exception leaves a def -/
abbrev CX0 : CXT := fun _ _ _ _ _ _ => False
abbrev E0 : XK := fun _ _ _ => False
theorem pass0 {X : Cx} : Passes CX0 X E0 := fun _ _ _ _ _ _ _ h => h.elim

/-! ### a def (or method) of the text as it stands behind the top -/
structure Fun (K : PySem.W.Frag) (x qual : Str) (st : Stmt) (f : Addr) (fd : FuncData) : Prop where
  ex : ∃ (oc : Value) (od : Option Addr) (kV doc pm : Value) (an : Option Addr) (cdv ct : Value) (osl : Array (Option Value)),
    fd = PySem.W.fnOf x qual (defArgs st) (defBody st) (defScope st) .none kV doc pm an cdv ct ∧ K.lookup f = some ⟨oc, od, .func fd, osl⟩ ∧ PySem.W.codeIn K cdv qual = true
  kp : PySem.W.keepIn K (.ref f) = true
section
variable {P : Program} {w : World} {K : PySem.W.Frag} {mg : Str → Option Value} {base : Heap}
/-- THE RULE for a def: its body as a term of rules, and the reading of that term -/
theorem Fun.ok {x qual : Str} {st : Stmt} {f : Addr} {fd : FuncData} {N ps : List Str} {k : Nat} {sp : Sp} (F : Fun K x qual st f fd) (S : FnScope N ps (defScope st)) (len : ∀ vs H Q E, sp vs H Q E → vs.length = ps.length)
    (hbody : ∀ (cdv : Value) (A : Around) (outer : List Env) (s : Shared) (H : Hp) (vs : List V) (Q : VK) (E : XK), Room k (A.deeper (envOfC qual (defScope st) s.heap.objs.size f cdv)) → sp vs H Q E →
      ∃ t, PSs (cxOf CX0 P w K mg base N qual (defScope st) f cdv A outer s H E).nox (defBody st) t ∧ t { nx := fun _ H' => Q .non H', rt := Q } (start N vs) H) : FnOk P w K mg base CX0 (k + 1) f fd ps sp := by
  obtain ⟨oc, od, kV, doc, pm, an, cdv, ct, osl, rfl, lk, hcd⟩ := F.ex
  refine fn_of lk hcd S len fun A outer s H vs Q E hr hsp => ?_
  obtain ⟨t, h, q⟩ := hbody cdv A outer s H vs Q E hr hsp
  exact ⟨t, h.nox, q⟩
/-- how its arguments bind (no defaults): h is «fun _ _ _ _ _ _ us hl => match us, hl with | [_, _], _ => rfl», one _ a parameter -/
theorem Fun.binds {x qual : Str} {st : Stmt} {f : Addr} {fd : FuncData} {ps : List Str} (F : Fun K x qual st f fd)
    (h : ∀ (kV doc pm : Value) (an : Option Addr) (cdv ct : Value) (us : List Value), us.length = ps.length → bindArgs (PySem.W.fnOf x qual (defArgs st) (defBody st) (defScope st) .none kV doc pm an cdv ct) ⟨us, []⟩ = pure (ps.zip us)) : Binds K fd ps [] := by
  obtain ⟨oc, od, kV, doc, pm, an, cdv, ct, osl, rfl, lk, hcd⟩ := F.ex
  exact .all (h kV doc pm an cdv ct)
theorem fun_mk {x qual : Str} {st : Stmt} {f : Addr} {oc : Value} {od an : Option Addr} {osl : Array (Option Value)} {kV doc pm cdv ct : Value} (l : K.lookup f = some ⟨oc, od, .func (PySem.W.fnOf x qual (defArgs st) (defBody st) (defScope st) .none kV doc pm an cdv ct), osl⟩)
    (c : PySem.W.codeIn K cdv qual = true) (k : PySem.W.keepIn K (.ref f) = true) : Fun K x qual st f (PySem.W.fnOf x qual (defArgs st) (defBody st) (defScope st) .none kV doc pm an cdv ct) := ⟨⟨oc, od, kV, doc, pm, an, cdv, ct, osl, rfl, l, c⟩, k⟩
end
theorem small1000 {n : Nat} (h : n ≤ 1000) : n < sizeLine := Nat.lt_of_le_of_lt h (by decide)

/-! ### expressions in short: the name that stands in the i-th slot -/
section
variable {X : Cx}
theorem pv (i : Nat) {x : Str} {pos : Pos} (hN : X.N[i]? = some x := by rfl) (hv : Vis X.env.scope x := by first | exact Or.inl rfl | exact Or.inr (Or.inl rfl) | exact Or.inr (Or.inr rfl)) (hd : (x == ("__debug__" : Str)) = false := by decide)
    (hcd : (x == ("__classdict__" : Str)) = false := by decide) : PE X (.Name x pos) (tVar i) := pe_var hN hv hd hcd
end

/-! ### tests -/
theorem iteF {A B : Prop} (h : B) : if false = true then A else B := by
  rw [if_neg Bool.false_ne_true]
  exact h
theorem iteT {A B : Prop} (h : A) : if true = true then A else B := by
  rw [if_pos rfl]
  exact h
theorem ite2 {c A B : Prop} [Decidable c] (h1 : c → A) (h2 : ¬ c → B) : if c then A else B := by
  by_cases h : c
  · rw [if_pos h]
    exact h1 h
  · rw [if_neg h]
    exact h2 h

/-! ### heaps -/
/-- all that was tracked is as it was -/
def Same (H H' : Hp) : Prop := ∀ b o, H b = some o → H' b = some o
theorem Same.refl (H : Hp) : Same H H := fun _ _ h => h
theorem Same.trans {H H1 H2 : Hp} (a : Same H H1) (b : Same H1 H2) : Same H H2 := fun c o h => b c o (a c o h)
theorem Same.free {H H' : Hp} (e : Same H H') {l : Addr} (h : H' l = Option.none) : H l = Option.none := by
  cases q : H l with
  | none => rfl
  | some o =>
    rw [e l o q] at h
    cases h
theorem Same.seq {K : PySem.W.Frag} {H H' : Hp} {a : Addr} {xs : List V} (e : Same H H') (h : SqL K H a xs) : SqL K H' a xs := by
  rcases h with (h | ⟨o, h⟩) | h
  · exact .inl (.inl (e _ _ h))
  · exact .inl (.inr ⟨o, e _ _ h⟩)
  · exact .inr h

end L2


set_option Elab.async false
set_option maxRecDepth 100000
set_option maxHeartbeats 4000000
/-! A list built by a comprehension: one clause, tests or none, names of the def around it. -/
namespace L2
open PySem PySem.Spec PyProof.Rows

section
variable {prog : Program} {w : World} {A : Around} {R : Result → Shared → Prop} {s : Shared}
/-- the walk through a block, no exception on the way -/
theorem lcLoop {elt tg iter : Expr} {ifs : List Expr} {sc : Scope} {pos : Pos} {it acc : Value} {env : Env} (J : Nat → Shared → Prop)
    (turn : ∀ n s, J n s → wpAny (model prog w) A (pyNext it) (fun r s1 => match r with
      | none => R (.ok .next) s1
      | some v => wpAny (model prog w) A (letOwnedTupleGo tg it v) (fun _ s2 => wpAny (model prog w) A (assign tg env v) (fun _ s3 =>
          wpAny (model prog w) A (forIn ifs true fun c r => if r = true then do let ok ← isTrue c env (eval c env); pure (ForInStep.yield ok) else pure (ForInStep.yield r)) (fun ok s4 =>
            if ok = true then wpAny (model prog w) A (eval elt env) (fun y s5 => wpAny (model prog w) A (call (.builtin "list.append") [acc, y]) (fun _ s6 => ∃ m, m < n ∧ J m s6) (fun _ _ => False) s5) (fun _ _ => False) s4
            else ∃ m, m < n ∧ J m s4) (fun _ _ => False) s3) (fun _ _ => False) s2) (fun _ _ => False) s1) (fun _ _ => False) s)
    (n : Nat) (h : J n s) : codeAny (model prog w) A (.compLoop (.ListComp elt [⟨tg, iter, ifs, 0⟩] sc pos) 0 it acc env) R s := by
  refine codeAny_loop rfl J (fun n s hJ => ?_) n h
  show wpAny _ A ((compTurn (.ListComp elt [⟨tg, iter, ifs, 0⟩] sc pos) 0 it acc env).onRaise (fun x => do noteFrame x env; theTreesLotGoes x)) _ _ s
  refine wpAny_noted ?_
  rw [compTurn_list]
  refine wpAny_bind (wpAny_standAt (wpAny_bind (wpAny_mono (turn n s hJ) (fun r s1 h1 => ?_) fun _ _ f => f.elim)))
  cases r with
  | none => exact wpAny_pure h1
  | some v =>
    refine wpAny_bind (wpAny_mono h1 (fun _ s2 h2 => ?_) fun _ _ f => f.elim)
    refine wpAny_bind (wpAny_mono h2 (fun _ s3 h3 => wpAny_bind (wpAny_mono h3 (fun ok s4 h4 => ?_) fun _ _ f => f.elim)) fun _ _ f => f.elim)
    cases ok with
    | false => exact wpAny_pure ⟨rfl, h4⟩
    | true =>
      exact wpAny_bind (wpAny_bind (wpAny_mono h4 (fun y s5 h5 => wpAny_bind (wpAny_mono h5 (fun _ s6 h6 => wpAny_pure (wpAny_pure ⟨rfl, h6⟩)) fun _ _ f => f.elim)) fun _ _ f => f.elim))
end

/-- the context of a block: entered at s, H, the iterator's objects at fp -/
def cxC (X : Cx) (N : List Str) (sc : Scope) (cl : List (Str × Addr)) (C : Addr) (s : Shared) (H : Hp) (fp : List Addr) : Cx where
  prog := X.prog
  w := X.w
  K := X.K
  mg := X.mg
  base := X.base
  A := X.A
  N := N
  s₀ := s
  H₀ := H
  env := compEnvC sc cl C X.env
  outer := X.stack
  stack := X.stack
  ex := fp
  fn := fun _ => false
  calm := X.calm
  pn := []
  xe := fun _ _ => False

/-- the values of the names outside that the block closes over -/
def pick (σ : St) (fr : List Nat) : St := fr.map fun i => (σ[i]?).getD none

/-- what must be so of the block's names: ns its own, ys those of the def around it (at the places fr there), cl their cells -/
structure CScope (X : Cx) (ns ys : List Str) (fr : List Nat) (sc : Scope) (cl : List (Str × Addr)) : Prop where
  clos : closureFor sc X.env = pure cl
  kind : sc.kind = .function
  nocell : ∀ y ∈ sc.names, y.2 ≠ .cell
  locs : ∀ y ∈ sc.names, y.2 = .local → sc.names.lookup y.1 = some .local
  sub : ∀ p ∈ cl, X.env.cells.lookup p.1 = some p.2
  has : ∀ y, ((relabel sc X.env).names.lookup y = some .cell ∨ (relabel sc X.env).names.lookup y = some .free) → ∃ c, cl.lookup y = some c
  len : fr.length = ys.length
  outs : ∀ (j : Nat) (y : Str), ys[j]? = some y → ∃ i : Nat, fr[j]? = some i ∧ X.N[i]? = some y ∧ (X.env.kindOf y = some .cell ∨ X.env.kindOf y = some .free) ∧
    ((relabel sc X.env).names.lookup y = some .cell ∨ (relabel sc X.env).names.lookup y = some .free)

theorem look_mem {α : Type} : ∀ {l : List (Str × α)} {x : Str} {c : α}, l.lookup x = some c → (x, c) ∈ l
  | [], _, _, h => by cases h
  | (y, d) :: r, x, c, h => by
    rw [List.lookup_cons] at h
    cases q : x == y with
    | true =>
      rw [q] at h
      have e1 : x = y := eq_of_beq q
      have e2 : d = c := Option.some.inj h
      rw [e1, e2]
      exact List.mem_cons_self
    | false =>
      rw [q] at h
      exact List.mem_cons_of_mem _ (look_mem h)

/-- the tests of a block -/
def PTs (X : Cx) (ifs : List Expr) (t : TT) : Prop :=
  ∀ (pins : List (Addr × Obj)) (s : Shared) (σ : St) (H : Hp) (Q : Bool → Hp → Prop), Inv X pins σ H s → t σ H Q →
    wpAny (model X.prog X.w) X.A (forIn ifs true fun c r => if r = true then do let ok ← isTrue c X.env (eval c X.env); pure (ForInStep.yield ok) else pure (ForInStep.yield r)) (TP X pins σ Q) X.xe s
def tYes : TT := fun _ H Q => Q true H
theorem pts_nil {X : Cx} : PTs X [] tYes := fun _ _ _ H _ I h => wpAny_tests_nil ⟨H, I, h⟩
theorem pts_one {X : Cx} {c : Expr} {t : TT} (h : PT X c t) : PTs X [c] t := fun pins s σ H Q I q => wpAny_tests_one (h pins s σ H Q I q)

/-- the reading: at turn i, with the list ys made so far standing at D -/
def Turns (k : Nat) (fr : List Nat) (g : TG) (tt : TT) (te : TE) (σ : St) (D : Addr) (ys : List V) (N : List V → Hp → Prop) (x : V) (H : Hp) : Prop :=
  g x (List.replicate k none ++ pick σ fr) H fun σ4 H4 => (∃ ts, σ4 = ts ++ pick σ fr ∧ ts.length = k) ∧ tt σ4 H4 fun b H5 => if b = true then te σ4 H5 fun y H6 => H6 D = some (.lst ys) ∧ N (ys ++ [y]) (upd H6 D (.lst (ys ++ [y]))) else N ys H5
def Comps (k : Nat) (fr : List Nat) (g : TG) (tt : TT) (te : TE) (σ : St) (Q : VK) (J : It) (H : Hp) (D : Addr) : Prop := ∃ W : Nat → Nat → List V → Hp → Prop, (∃ m, W 0 m [] (upd H D (.lst []))) ∧
  ∀ i m ys H2, W i m ys H2 → H2 D = some (.lst ys) ∧ ((J.stop i H2 ∧ Q (.ref D) H2) ∨ (J.go i H2 ∧ ys.length < sizeLine ∧ ∃ N : List V → Hp → Prop, (∀ ys' H', N ys' H' → ∃ m', m' < m ∧ W (i + 1) m' ys' H') ∧
    ∀ x H3, J.yld i H2 x H3 → Turns k fr g tt te σ D ys N x H3))
def tComp (k : Nat) (fr : List Nat) (wi : TI) (g : TG) (tt : TT) (te : TE) : TE := fun σ H Q => wi σ H fun J H1 => ∀ D, H1 D = none → Comps k fr g tt te σ Q J H1 D

section
variable {X : Cx} {pins : List (Addr × Obj)} {σ : St} {H H' : Hp} {s s' : Shared} {ns ys : List Str} {fr : List Nat} {sc : Scope} {cl : List (Str × Addr)} {C : Addr} {fp : List Addr}

theorem cxC_ok (I : Inv X pins σ H s) (S : CScope X ns ys fr sc cl) (hf : ∀ b ∈ fp, FpOk X pins H b) (hl : ∀ b ∈ fp, b < s.heap.objs.size) (hC : s.heap.objs.size ≤ C) : (cxC X (ns ++ ys) sc cl C s H fp).Ok where
  mod := I.ok.mod
  kind := S.kind
  glob := I.ok.glob
  blt := I.ok.blt
  above := hC
  inj := fun x y c e1 e2 => I.ok.inj x y c (S.sub _ (look_mem e1)) (S.sub _ (look_mem e2))
  has := fun x h => S.has x h
  cab := fun x c h => nomatch h
  hd := fun h => I.ok.hd h
  frames := I.ok.frames
  stk := .inl rfl
  exf := fun b hb => ⟨Nat.ne_of_lt (Nat.lt_of_lt_of_le (hl b hb) hC), fun x c e => (hf b hb).2.2.2.2.1 x c (S.sub _ (look_mem e))⟩
  bs := I.bs
  bsz := Nat.le_trans I.ok.bsz I.sz
  noex := fun b o e hb => by
    rcases (hf b hb).2.2.2.1 with z | z
    · exact I.ok.noex b o e z
    · exact absurd (Nat.lt_of_lt_of_le (Heap.lt_size e) (Nat.le_trans I.ok.bsz z)) (Nat.lt_irrefl _)
  exfs := fun b hb hs => by
    rcases List.mem_cons.mp (I.stkSub b hs) with z | z
    · exact (hf b hb).2.1 z
    · exact (hf b hb).2.2.1 z
  funs := I.stack
  frf := I.stkFree

/-- the block is entered: its list at the heap's end, its frame behind that -/
theorem cxC_start {h' : Heap} {t' : Nat} {n : Nat} {m : Str → Option Value} (I : Inv X pins σ H s) (S : CScope X ns ys fr sc cl) (hf : ∀ b ∈ fp, FpOk X pins H b) (hl : ∀ b ∈ fp, b < s.heap.objs.size) (hC : s.heap.objs.size < C)
    (k : ∀ b o, s.heap.get? b = some o → h'.get? b = some o) (hD : h'.get? s.heap.objs.size = some { cls := .type "list", data := .seq ([] : List Value).toArray n }) (hn : h'.Ns C m) :
    Inv (cxC X (ns ++ ys) sc cl C s H fp) [] (List.replicate ns.length none ++ pick σ fr) (upd H s.heap.objs.size (.lst [])) { s with heap := h', toks := t' } := by
  have fD : H s.heap.objs.size = none := I.hok.fresh (Nat.le_refl _)
  have fC : H C = none := I.hok.fresh (Nat.le_of_lt hC)
  have cLt : ∀ x c, cl.lookup x = some c → c < s.heap.objs.size := fun x c e => by
    obtain ⟨v, q⟩ := I.cell x c (S.sub _ (look_mem e))
    exact q.lt
  refine ⟨cxC_ok I S hf hl (Nat.le_of_lt hC), rfl, I.bare, Un.laid k (Nat.le_refl _) fD, ⟨m, hn, fun i y v e1 e2 e3 => ?_⟩, fun x c e => ?_, ?_, fun x c e => ?_, fun p hp => (nomatch hp), ?_, ?_⟩
  · have e1 : (ns ++ ys)[i]? = some y := e1
    by_cases hi : i < ns.length
    · rw [List.getElem?_append_left (by simpa using hi), List.getElem?_replicate, if_pos hi] at e2
      cases e2
    · have hi' : ns.length ≤ i := Nat.le_of_not_lt hi
      rw [List.getElem?_append_right hi'] at e1
      rw [List.getElem?_append_right (by simpa using hi'), List.length_replicate] at e2
      obtain ⟨i', f1, f2, f3, f4⟩ := S.outs _ y e1
      unfold pick at e2
      rw [List.getElem?_map, f1] at e2
      have e2' : (σ[i']?).getD none = some v := Option.some.inj e2
      have e4 : σ[i']? = some (some v) := by
        cases q : σ[i']? with
        | none => rw [q] at e2'; cases e2'
        | some o =>
          rw [q] at e2'
          have e5 : o = some v := e2'
          rw [e5]
      obtain ⟨m0, hn0, hl0⟩ := I.loc
      obtain ⟨u, r, lk⟩ := hl0 i' y v f2 e4 (f3.elim (fun z => .inr (.inl z)) fun z => .inr (.inr z))
      refine ⟨u, r, .inr ⟨f4, ?_⟩⟩
      rcases lk with ⟨z, _⟩ | ⟨_, c, ec, hc⟩
      · rcases f3 with z' | z' <;> (rw [z] at z'; cases z')
      · obtain ⟨c', ec'⟩ := S.has y f4
        have ee := S.sub _ (look_mem ec')
        rw [ec] at ee
        have ecc : c = c' := Option.some.inj ee
        subst ecc
        exact ⟨c, ec', hc.keeps k⟩
  · obtain ⟨v, q⟩ := I.cell x c (S.sub _ (look_mem e))
    exact ⟨v, q.keeps k⟩
  · show upd H s.heap.objs.size (.lst []) C = none
    rw [upd_ne (Nat.ne_of_gt hC)]
    exact fC
  · rw [upd_ne (Nat.ne_of_lt (cLt x c e))]
    exact I.freeC x c (S.sub _ (look_mem e))
  · exact I.hok.laid k (Nat.le_refl _) ⟨Nat.zero_le _, [], n, .nil, hD⟩
  · show (List.replicate ns.length none ++ pick σ fr).length = (ns ++ ys).length
    rw [List.length_append, List.length_append, List.length_replicate]
    unfold pick
    rw [List.length_map, S.len]

/-- the block is left: its frame's names let go -/
theorem cxC_back {σ' : St} {h' : Heap} (I : Inv X pins σ H s) (hf : ∀ b ∈ fp, FpOk X pins H b) (hC : s.heap.objs.size ≤ C) (I' : Inv (cxC X (ns ++ ys) sc cl C s H fp) [] σ' H' s') (hs : Heap.SameBut C s'.heap h') :
    Inv X pins σ H' { s' with heap := h' } := by
  have U : Un (frs X.stack) fp H H' s.heap s'.heap := I'.base
  have ne : ∀ b o, s.heap.get? b = some o → b ≠ C := fun b o e => Nat.ne_of_lt (Nat.lt_of_lt_of_le (Heap.lt_size e) hC)
  refine I.call' (s' := { s' with heap := h' }) (ch := fp) I'.os ⟨fun b o e n hb hx => ?_, fun b o e n hb hx => ?_, U.free, fun b o e hx => ?_, U.tups, U.frzs, U.tbls⟩ (fun b u e => ?_) I'.bare fun b hb => ?_
  · exact (hs.2 b (ne b o e)).trans (U.keep b o e n hb hx)
  · obtain ⟨sl, q⟩ := U.slot b o e n hb hx
    exact ⟨sl, (hs.2 b (ne b o e)).trans q⟩
  · obtain ⟨o', q⟩ := U.there b o e hx
    exact ⟨o', (hs.2 b (ne b o e)).trans q⟩
  · have fr' : H' C = none := I'.free
    refine (I'.hok b u e).stay (fun c v hc q => (hs.2 c ?_).trans q) (fun _ q => q) fun _ _ q => q
    intro z
    rcases hc with z' | z'
    · rw [← z', z, fr'] at e
      cases e
    · rw [z, fr'] at z'
      cases z'
  · obtain ⟨f0, f1, f2, f3, f4, f5⟩ := hf b hb
    exact ⟨f3, f1, f4, f5⟩
end

theorem pe_comp {X : Cx} {elt iter tg : Expr} {ifs : List Expr} {sc : Scope} {pos : Pos} {ns ys : List Str} {fr : List Nat} {cl : List (Str × Addr)} {wi : TI} {g : TG} {tt : TT} {te : TE} (S : CScope X ns ys fr sc cl) (hc : X.calm = true)
    (hi : PI X tg iter wi) (hg : ∀ C s H fp, PG (cxC X (ns ++ ys) sc cl C s H fp) tg g) (ht : ∀ C s H fp, PTs (cxC X (ns ++ ys) sc cl C s H fp) ifs tt) (he : ∀ C s H fp, PE (cxC X (ns ++ ys) sc cl C s H fp) elt te)
    (hs : ∀ x, foldedSetIterable iter X.env x = pure x := by intro _; rfl) : PE X (.ListComp elt [⟨tg, iter, ifs, 0⟩] sc pos) (tComp ns.length fr wi g tt te) := by
  intro pins s σ H Q I h
  rw [eval_ListComp]
  refine wpAny_comprehension_free (use := none) rfl hs S.clos S.kind S.locs (thn (hi pins s σ H _ I h) fun v s1 h1 => thn h1 fun itv s2 h2 => ?_)
  obtain ⟨it, fp, tn, J, H2, e, I2, T, st2, f2, rest⟩ := h2
  subst e
  obtain ⟨W, ⟨m0, w0⟩, turn⟩ := rest s2.heap.objs.size (I2.hok.fresh (Nat.le_refl _))
  refine wpAny_newObj_type (wpAny_newFunctionEnv S.nocell (by intro y hy; simp at hy) (fun h3 hn3 hb3 => ?_) S.kind)
  dsimp only at hn3 hb3 ⊢
  generalize hG : s2.heap.push { cls := .type "list", dict := none, data := .seq ([] : List Value).toArray } = G at hn3 hb3 ⊢
  have zG : G.objs.size = s2.heap.objs.size + 1 := by rw [← hG, Heap.size_push]
  have ltC : s2.heap.objs.size < G.objs.size := by rw [zG]; exact Nat.lt_succ_self _
  have old : ∀ b o, s2.heap.get? b = some o → h3.get? b = some o := fun b o e =>
    hb3.extBut b o (Nat.ne_of_lt (Nat.lt_trans (Heap.lt_size e) ltC)) (Heap.get?_push_of_some _ (hG ▸ Heap.get?_push_of_some _ e))
  have hD := hb3.extBut _ _ (Nat.ne_of_lt ltC) (Heap.get?_push_of_some _ (hG ▸ Heap.get?_push_size _ rfl))
  have below : ∀ b ∈ fp, b < s2.heap.objs.size := fun b hb => by
    obtain ⟨o, eo, _⟩ := T.obj _ _ st2 b hb
    exact Heap.lt_size eo
  have I3 := cxC_start (ns := ns) (ys := ys) (fr := fr) (t' := s2.toks + ([] : List (Str × Value)).length) I2 S f2 below ltC old hD hn3
  have stat : ∀ {H' : Hp}, (∀ b ∈ fp, H' b = none) → ∀ b ∈ fp, FpOk (cxC X (ns ++ ys) sc cl G.objs.size s2 H2 fp) [] H' b := fun hn b hb =>
    ⟨hn b hb, Nat.ne_of_lt (Nat.lt_trans (below b hb) ltC), I3.ok.exfs b hb, .inl hb, fun x c e => (I3.ok.exf b hb).2 x c e, fun p hp => nomatch hp⟩
  have st3 : tn 0 h3 := T.keep _ _ _ st2 fun b _ o e => old b o e
  have fr3 : ∀ b ∈ fp, upd H2 s2.heap.objs.size (.lst []) b = none := fun b hb => by
    rw [upd_ne (Nat.ne_of_lt (below b hb))]
    exact (f2 b hb).1
  have loop : ∀ s3 : Shared, s3 = { s2 with heap := h3, toks := s2.toks + ([] : List (Str × Value)).length } →
      codeAny (model X.prog X.w) X.A (.compLoop (.ListComp elt [⟨tg, iter, ifs, 0⟩] sc pos) 0 (.ref it) (.ref s2.heap.objs.size) (compEnvC sc cl G.objs.size X.env))
        (compPost (model X.prog X.w) X.A X.xe none (EP X pins σ Q) (.ref s2.heap.objs.size) G.objs.size) s3 := by
    rintro s3 rfl
    refine lcLoop (fun n s' => ∃ i zs H', Inv (cxC X (ns ++ ys) sc cl G.objs.size s2 H2 fp) [] (List.replicate ns.length none ++ pick σ fr) H' s' ∧ tn i s'.heap ∧ (∀ b ∈ fp, H' b = none) ∧ W i n zs H') ?_ m0 ⟨0, [], _, I3, st3, fr3, w0⟩
    rintro n s5 ⟨i, zs, H5, I5, st5, fr5, w5⟩
    obtain ⟨d5, alt⟩ := turn i n zs H5 w5
    rcases alt with ⟨stop, q⟩ | ⟨go, hz, N, hN, step⟩
    · refine thn (T.done (cxC X (ns ++ ys) sc cl G.objs.size s2 H2 fp) rfl rfl rfl hc i [] s5 _ H5 _ I5 (stat fr5) st5 stop) fun r s6 ⟨hr, I6⟩ => ?_
      subst hr
      obtain ⟨m6, hn6, _⟩ := I6.loc
      exact ⟨m6, hn6, fun h7 hs7 => ⟨.ref s2.heap.objs.size, H5, cxC_back I2 f2 (Nat.le_of_lt ltC) I6 hs7, rfl, q⟩⟩
    · refine thn (T.item (cxC X (ns ++ ys) sc cl G.objs.size s2 H2 fp) rfl rfl rfl hc i [] s5 _ H5 _ I5 (stat fr5) st5 go) fun r s6 ⟨u, hr, h6⟩ => ?_
      subst hr
      refine thn h6 fun _ s7 ⟨x, H7, I7, r7, y7, st7, fr7⟩ => ?_
      have I7' := I7.pinned (stat fr7) (T.obj _ _ st7)
      refine thn (hg _ _ _ _ _ s7 _ H7 x u _ I7' r7 (step x H7 y7)) fun _ s8 ⟨σ8, H8, I8, ⟨ts, eσ, lts⟩, q8⟩ => ?_
      have again : ∀ {H9 : Hp} {s9 : Shared} {zs' : List V} {m' : Nat}, m' < n → Inv (cxC X (ns ++ ys) sc cl G.objs.size s2 H2 fp) ([] ++ pinsAt fp s7.heap) σ8 H9 s9 → W (i + 1) m' zs' H9 →
          ∃ m, m < n ∧ ∃ i zs H', Inv (cxC X (ns ++ ys) sc cl G.objs.size s2 H2 fp) [] (List.replicate ns.length none ++ pick σ fr) H' s9 ∧ tn i s9.heap ∧ (∀ b ∈ fp, H' b = none) ∧ W i m zs H' := fun {H9 s9 zs' m'} hm I9 w9 => by
        refine ⟨m', hm, i + 1, zs', H9, I9.unpinned.weak ?_ ?_, T.keep _ _ _ st7 fun b hb o e => (I9.pin (b, o) (List.mem_append_right _ (List.mem_append_right _ (mem_pinsAt hb e)))).1, fun b hb => ?_, w9⟩
        · rw [eσ, List.length_append, List.length_append, List.length_replicate, lts]
        · intro j v e
          rw [eσ]
          by_cases hj : j < ns.length
          · rw [List.getElem?_append_left (by simpa using hj), List.getElem?_replicate, if_pos hj] at e
            cases e
          · have hj' : ns.length ≤ j := Nat.le_of_not_lt hj
            rw [List.getElem?_append_right (by simpa using hj'), List.length_replicate] at e
            rw [List.getElem?_append_right (by rw [lts]; exact hj'), lts]
            exact e
        · obtain ⟨o, e, d⟩ := T.obj _ _ st7 b hb
          exact (I9.pin (b, o) (List.mem_append_right _ (List.mem_append_right _ (mem_pinsAt hb e)))).2.1
      refine thn (ht _ _ _ _ _ s8 σ8 H8 _ I8 q8) fun ok s9 ⟨H9, I9, q9⟩ => ?_
      cases ok with
      | false =>
        rw [if_neg Bool.false_ne_true] at q9 ⊢
        obtain ⟨m', hm, w9⟩ := hN _ _ q9
        exact again hm I9 w9
      | true =>
        rw [if_pos rfl] at q9 ⊢
        refine thn (he _ _ _ _ _ s9 σ8 H9 _ I9 q9) fun yv s10 ⟨y, H10, I10, r10, d10, w10⟩ => ?_
        refine thn (mt_append _ s10 σ8 H10 (.ref s2.heap.objs.size) [y] (.ref s2.heap.objs.size) [yv] (fun _ H11 => N (zs ++ [y]) H11) I10 rfl (.cons r10 .nil) ⟨_, zs, y, rfl, rfl, d10, hz, w10⟩) fun _ s11 ⟨_, H11, I11, _, w11⟩ => ?_
        obtain ⟨m', hm, w12⟩ := hN _ _ w11
        exact again hm I11 w12
  exact codeAny_compStart_list (loop _ rfl) (T.self X.A 0 _ _ _ st3 (loop _ rfl))

/-! ### the forms one uses -/
section
variable {k : Nat} {fr : List Nat} {g : TG} {tt : TT} {te : TE} {σ : St} {Q : VK} {D : Addr} {H : Hp}
theorem comp_range {lo : Int} {n : Nat} (Pv : Nat → List V → Hp → Prop) (h0 : Pv 0 [] (upd H D (.lst []))) (hd : ∀ i ys H, Pv i ys H → H D = some (.lst ys))
    (hs : ∀ i ys H, i < n → Pv i ys H → ys.length < sizeLine ∧ Turns k fr g tt te σ D ys (Pv (i + 1)) (.int (lo + i)) H) (he : ∀ ys H, Pv n ys H → Q (.ref D) H) : Comps k fr g tt te σ Q (Itr lo n) H D := by
  refine ⟨fun i m ys H => i + m = n ∧ Pv i ys H, ⟨n, by omega, h0⟩, ?_⟩
  rintro i m ys H2 ⟨e, p⟩
  refine ⟨hd i ys H2 p, ?_⟩
  by_cases hi : i < n
  · obtain ⟨z, q⟩ := hs i ys H2 hi p
    refine .inr ⟨hi, z, Pv (i + 1), fun ys' H' p' => ⟨m - 1, by omega, by omega, p'⟩, ?_⟩
    rintro x H3 ⟨rfl, rfl⟩
    exact q
  · have e' : i = n := by omega
    subst e'
    exact .inl ⟨Nat.le_refl _, he ys H2 p⟩
theorem comp_list {K : PySem.W.Frag} {a : Addr} {xs : List V} (Pv : Nat → List V → Hp → Prop) (h0 : Pv 0 [] (upd H D (.lst []))) (hd : ∀ i ys H, Pv i ys H → H D = some (.lst ys)) (hl : ∀ i ys H, i ≤ xs.length → Pv i ys H → SqL K H a xs)
    (hs : ∀ i x ys H, xs[i]? = some x → Pv i ys H → ys.length < sizeLine ∧ Turns k fr g tt te σ D ys (Pv (i + 1)) x H) (he : ∀ ys H, Pv xs.length ys H → Q (.ref D) H) : Comps k fr g tt te σ Q (Itl K a) H D := by
  refine ⟨fun i m ys H => i + m = xs.length ∧ Pv i ys H, ⟨xs.length, by omega, h0⟩, ?_⟩
  rintro i m ys H2 ⟨e, p⟩
  have sq := hl i ys H2 (by omega) p
  refine ⟨hd i ys H2 p, ?_⟩
  by_cases hi : i < xs.length
  · have hx : xs[i]? = some xs[i] := List.getElem?_eq_getElem hi
    obtain ⟨z, q⟩ := hs i _ ys H2 hx p
    refine .inr ⟨⟨xs, _, sq, hx⟩, z, Pv (i + 1), fun ys' H' p' => ⟨m - 1, by omega, by omega, p'⟩, ?_⟩
    rintro x H3 ⟨rfl, hy⟩
    have e2 := hy xs sq
    rw [hx] at e2
    cases e2
    exact q
  · have e' : i = xs.length := by omega
    subst e'
    exact .inl ⟨⟨xs, sq, Nat.le_refl _⟩, he ys H2 p⟩
theorem comp_tup {K : PySem.W.Frag} {a : Addr} {xs : List V} (Pv : Nat → List V → Hp → Prop) (h0 : Pv 0 [] (upd H D (.lst []))) (hd : ∀ i ys H, Pv i ys H → H D = some (.lst ys)) (hl : ∀ i ys H, i ≤ xs.length → Pv i ys H → SqT K H a xs)
    (hs : ∀ i x ys H, xs[i]? = some x → Pv i ys H → ys.length < sizeLine ∧ Turns k fr g tt te σ D ys (Pv (i + 1)) x H) (he : ∀ ys H, Pv xs.length ys H → Q (.ref D) H) : Comps k fr g tt te σ Q (Itt K a) H D := by
  refine ⟨fun i m ys H => i + m = xs.length ∧ Pv i ys H, ⟨xs.length, by omega, h0⟩, ?_⟩
  rintro i m ys H2 ⟨e, p⟩
  have sq := hl i ys H2 (by omega) p
  refine ⟨hd i ys H2 p, ?_⟩
  by_cases hi : i < xs.length
  · have hx : xs[i]? = some xs[i] := List.getElem?_eq_getElem hi
    obtain ⟨z, q⟩ := hs i _ ys H2 hx p
    refine .inr ⟨⟨xs, _, sq, hx⟩, z, Pv (i + 1), fun ys' H' p' => ⟨m - 1, by omega, by omega, p'⟩, ?_⟩
    rintro x H3 ⟨rfl, hy⟩
    have e2 := hy xs sq
    rw [hx] at e2
    cases e2
    exact q
  · have e' : i = xs.length := by omega
    subst e'
    exact .inl ⟨⟨xs, sq, Nat.le_refl _⟩, he ys H2 p⟩
end
end L2


set_option Elab.async false
set_option maxRecDepth 100000
set_option maxHeartbeats 4000000
/-! More rules: isinstance, an empty tuple in front of +, tuples by >=, a text cut, zip of two tuples, the same data by ==. -/
namespace L2
open PySem PySem.Spec PyProof.Rows

section
variable {X : Cx} {pins : List (Addr × Obj)} {σ : St} {H : Hp} {s : Shared} {h' : Heap}
/-- an object of ours that nobody tracked is tracked from now on -/
theorem Inv.track {a : Addr} {o : HO} (I : Inv X pins σ H s) (f : FpOk X pins H a) (h1 : X.s₀.heap.objs.size ≤ a) (new : ObjOk X.prog X.w (upd H a o) s.heap a o) : Inv X pins σ (upd H a o) s := by
  obtain ⟨f0, f1, f2, f3, f4, f5⟩ := f
  have old : ∀ b u, H b = some u → upd H a o b = some u := fun b u e => by
    rw [upd_ne (ne_of_none e f0)]
    exact e
  refine ⟨I.ok, I.os, I.bare, ⟨I.base.keep, I.base.slot, fun b ob e n hx => ?_, I.base.there, fun b xs e => old _ _ (I.base.tups b xs e), fun b ob u e => old _ _ (I.base.frzs b ob u e), fun b ps e => ?_⟩, I.loc, I.cell, ?_, fun x c e => ?_, fun p hp => ?_, fun b u e => ?_, I.len⟩
  · rw [upd_ne (Nat.ne_of_lt (Nat.lt_of_lt_of_le (Heap.lt_size e) h1))]
    exact I.base.free b ob e n hx
  · obtain ⟨more, q⟩ := I.base.tbls b ps e
    exact ⟨more, old _ _ q⟩
  · rw [upd_ne (Ne.symm f1)]
    exact I.free
  · rw [upd_ne (f4 x c e)]
    exact I.freeC x c e
  · obtain ⟨p1, p2, p3⟩ := I.pin p hp
    refine ⟨p1, ?_, p3⟩
    rw [upd_ne (f5 p hp)]
    exact p2
  · by_cases q : b = a
    · subst q
      rw [upd_same] at e
      cases e
      exact new
    · rw [upd_ne q] at e
      exact (I.hok b u e).stay (fun _ _ _ z => z) (fun c z => old _ _ z) fun c xs z => old _ _ z
/-- untracked records of ours (an iterator's) have turned -/
theorem Inv.turnedAll {t' : Nat} {ch : List Addr} (I : Inv X pins σ H s) (hf : ∀ b ∈ ch, FpOk X pins H b) (k : ∀ b o, b ∉ ch → s.heap.get? b = some o → h'.get? b = some o) : Inv X pins σ H { s with heap := h', toks := t' } := by
  have nc : ∀ b u, H b = some u → b ∉ ch := fun b u e z => by
    rw [(hf b z).1] at e
    cases e
  refine I.step (g' := s.gens) (d' := s.drawn) (ch := ch) (fun b hb => ?_) (fun b o _ _ hc e _ => k b o hc e) (fun b o _ _ hc e _ => ⟨o.slots, k b o hc e⟩) (fun _ _ _ _ n => n) (fun b o hc e => ⟨o, k b o hc e⟩)
    (fun _ _ e => e) (fun _ _ _ e => e) (fun b ps e => ⟨#[], by rw [e]; simp⟩) (fun m hm => ?_) (fun b u e => ?_) I.bare
  · obtain ⟨f0, f1, f2, f3, f4, f5⟩ := hf b hb
    exact ⟨f3, f1, f4, f5⟩
  · obtain ⟨o, es, ep, ho, r⟩ := hm
    exact ⟨o, es, ep, k _ o (fun z => (hf _ z).2.1 rfl) ho, r⟩
  · refine (I.hok b u e).stay (fun c v hc q => k c v ?_ q) (fun _ q => q) fun _ _ q => q
    rcases hc with z | z
    · rw [z]; exact nc b u e
    · exact nc c _ z
end

/-! ### isinstance of one class -/
section
variable {X : Cx}
def rIsi (K : PySem.W.Frag) : List V → Hp → VK → Prop := fun xs H Q => ∃ x t n b, xs = [x, .ty n] ∧ TyOf K H x t ∧ PySem.W.kitOne K t (.type n) = some b ∧ Q (.bl b) H

/-! ### () + t -/
def rCatT0 (K : PySem.W.Frag) : R2 := fun x y H Q => ∃ a b ys, x = .ref a ∧ y = .ref b ∧ SqT K H a [] ∧ SqT K H b ys ∧ Q (.ref b) H
theorem op_catT0 : OpR X (binaryOp .Add) (rCatT0 X.K) := by
  intro pins s σ H x y v u Q I rx ry h
  obtain ⟨a, b, ys, rfl, rfl, ha, hb, q⟩ := h
  cases rx
  cases ry
  obtain ⟨its, r1, p1, _⟩ := I.tuple ha
  obtain ⟨its2, r2, p2, _⟩ := I.tuple hb
  cases r1
  obtain ⟨⟨c1, d1, t1, l1⟩, g1, k1, n1, z1⟩ := id p1
  obtain ⟨⟨c2, d2, t2, l2⟩, g2, k2, n2, z2⟩ := id p2
  simp only at k1 z1 k2 z2
  subst k1 z1 k2 z2
  exact concat_meets ⟨_, g1, rfl⟩ ⟨_, g2, rfl⟩ noFill_tuple_add seq_tuple_add PySem.F.slot_tuple_add PySem.F.entry_tuple_add (PySem.F.args_tuple_add_2 _ _)
    (tuple_addW0 a b #[] its2.toArray n1 n2 d1 d2 l1 l2 rfl) ⟨g1, g2, ⟨.ref b, H, I, rfl, q⟩⟩
/-- t + u for any t -/
theorem op_catTT : OpR X (binaryOp .Add) (fun x y H Q => rCatT X.K x y H Q ∨ rCatT0 X.K x y H Q) := op_catT.or op_catT0

/-! ### a text cut: x[lo:hi] -/
def rSlS : V → Option Int → Option Int → Hp → VK → Prop := fun x lo hi H Q => ∃ z, x = .str z ∧ z.length ≤ sizeLine ∧ Q (.str (Txt.slice z lo hi)) H
theorem sl_str : SlR X rSlS := by
  intro pins s σ H x v vl vu lo hi sl Q I rx hs pl pu h
  obtain ⟨z, rfl, hz, q⟩ := h
  obtain ⟨t, rfl⟩ := rx
  obtain ⟨o, ho, hc, hd⟩ := hs
  refine ⟨"str", _, F.slot_str_getitem.lookup, typeIs_str _ _ _, ?_⟩
  have fin : ∀ t' k, EP X pins σ Q (.str (Txt.slice z lo hi) t') { s with toks := k } := fun t' k => ⟨.str (Txt.slice z lo hi), H, I.tok k, ⟨t', rfl⟩, q⟩
  cases pl with
  | none =>
    cases pu with
    | none => exact wpAny_getItem_str_slice (l := none) (u := none) (st := none) ⟨o, ho, hc, hd⟩ rfl (post_val_or_str ⟨Nat.le_trans (Txt.slice_le z _ _) hz, fin⟩)
    | int j uj => exact wpAny_getItem_str_slice (l := none) (u := some (j, uj)) (st := none) ⟨o, ho, hc, hd⟩ rfl (post_val_or_str ⟨Nat.le_trans (Txt.slice_le z _ _) hz, fin⟩)
  | int i ui =>
    cases pu with
    | none => exact wpAny_getItem_str_slice (l := some (i, ui)) (u := none) (st := none) ⟨o, ho, hc, hd⟩ rfl (post_val_or_str ⟨Nat.le_trans (Txt.slice_le z _ _) hz, fin⟩)
    | int j uj => exact wpAny_getItem_str_slice (l := some (i, ui)) (u := some (j, uj)) (st := none) ⟨o, ho, hc, hd⟩ rfl (post_val_or_str ⟨Nat.le_trans (Txt.slice_le z _ _) hz, fin⟩)
end
end L2

/-! ### tuples of ints by >= -/
namespace HT
open PySem PyProof.Rows
section
open PySem.SeqAt
open PySem.AutoSeq1 (wpAny_loadPart')
open PySem.MeetsSeq PySem.MeetsSeq2 PySem.MeetsSeq3
end
end HT

namespace L2
open PySem PySem.Spec PyProof.Rows
section
variable {X : Cx}
def rGeT (K : PySem.W.Frag) : R2 := fun x y H Q => ∃ a b ns ms, x = .ref a ∧ y = .ref b ∧ SqT K H a (ns.map V.int) ∧ SqT K H b (ms.map V.int) ∧ Q (.bl (!HT.lexLt ns ms)) H
end

/-! ### == of two things that hold the same data -/
inductive Da where
  | flat (v : V)
  | tup (xs : List Da)
  | lst (xs : List Da)

mutual
/-- the value x holds the data d -/
inductive Hold (K : PySem.W.Frag) (H : Hp) : V → Da → Prop where
  | flat {v : V} : flatV v = true → Hold K H v (.flat v)
  | tup {a : Addr} {xs : List V} {ds : List Da} : SqT K H a xs → Holds K H xs ds → Hold K H (.ref a) (.tup ds)
  | lst {a : Addr} {xs : List V} {ds : List Da} : SqL K H a xs → Holds K H xs ds → Hold K H (.ref a) (.lst ds)
inductive Holds (K : PySem.W.Frag) (H : Hp) : List V → List Da → Prop where
  | nil : Holds K H [] []
  | cons {x : V} {xs : List V} {d : Da} {ds : List Da} : Hold K H x d → Holds K H xs ds → Holds K H (x :: xs) (d :: ds)
end

mutual
def Da.dep : Da → Nat
  | .flat _ => 0
  | .tup xs => depL xs + 1
  | .lst xs => depL xs + 1
def depL : List Da → Nat
  | [] => 0
  | d :: r => max d.dep (depL r)
end
theorem dep_mem : ∀ {ds : List Da} {d : Da}, d ∈ ds → d.dep ≤ depL ds
  | e :: r, d, h => by
    rw [depL]
    rcases List.mem_cons.mp h with rfl | h
    · exact Nat.le_max_left _ _
    · exact Nat.le_trans (dep_mem h) (Nat.le_max_right _ _)
theorem Holds.length {K : PySem.W.Frag} {H : Hp} : ∀ {xs : List V} {ds : List Da}, Holds K H xs ds → xs.length = ds.length
  | [], _, h => by cases h; rfl
  | _ :: _, _, h => by
    cases h with
    | cons _ r => rw [List.length_cons, List.length_cons, r.length]
theorem Holds.get {K : PySem.W.Frag} {H : Hp} : ∀ {xs : List V} {ds : List Da} {j : Nat} {x : V}, Holds K H xs ds → xs[j]? = some x → ∃ d, ds[j]? = some d ∧ Hold K H x d
  | [], _, _, _, _, e => by cases e
  | z :: zs, _, 0, x, h, e => by
    cases h with
    | cons hx _ =>
      have e' : z = x := by simpa using e
      subst e'
      exact ⟨_, rfl, hx⟩
  | z :: zs, _, j + 1, x, h, e => by
    cases h with
    | cons _ r =>
      obtain ⟨d, h1, h2⟩ := r.get (j := j) (x := x) (by simpa using e)
      exact ⟨d, by simpa using h1, h2⟩
theorem eqV_self {v : V} (h : flatV v = true) : eqV v v = true := by
  cases v with
  | non => rfl
  | bl b => exact beq_self_eq_true b
  | int i => exact beq_self_eq_true i
  | str z => exact beq_self_eq_true z
  | byt _ => cases h
  | flt _ => cases h
  | ref _ => cases h
  | ty _ => cases h

section
open PySem.SeqAt
variable {X : Cx} {pins : List (Addr × Obj)} {σ : St} {H : Hp} {s : Shared} {A : Around}
theorem same_items {xs ys : List V} {ds : List Da} {its its2 : List Value} (h1 : Holds X.K H xs ds) (h2 : Holds X.K H ys ds) (r1 : Vals xs its) (r2 : Vals ys its2)
    (el : ∀ d ∈ ds, ∀ (x y : V) (u v : Value), Hold X.K H x d → Hold X.K H y d → RelV x u → RelV y v → EqAt A s u v true) :
    ∀ j (q1 : j < its.toArray.size) (q2 : j < its2.toArray.size), EqAt A s its.toArray[j] its2.toArray[j] true := by
  intro j q1 q2
  have l1 := r1.length
  have l2 := r2.length
  have j1 : j < xs.length := by rw [l1]; simpa using q1
  have j2 : j < ys.length := by rw [l2]; simpa using q2
  obtain ⟨d, e1, k1⟩ := h1.get (List.getElem?_eq_getElem j1)
  obtain ⟨d', e2, k2⟩ := h2.get (List.getElem?_eq_getElem j2)
  rw [e1] at e2
  cases e2
  obtain ⟨u, f1, ru⟩ := r1.get (List.getElem?_eq_getElem j1)
  obtain ⟨v, f2, rv⟩ := r2.get (List.getElem?_eq_getElem j2)
  have g1 : its.toArray[j] = u := by
    have z : its[j]? = some its.toArray[j] := by simp [List.getElem?_eq_getElem (by simpa using q1 : j < its.length)]
    rw [f1] at z
    exact (Option.some.inj z).symm
  have g2 : its2.toArray[j] = v := by
    have z : its2[j]? = some its2.toArray[j] := by simp [List.getElem?_eq_getElem (by simpa using q2 : j < its2.length)]
    rw [f2] at z
    exact (Option.some.inj z).symm
  rw [g1, g2]
  exact el d (List.mem_of_getElem? e1) _ _ _ _ k1 k2 ru rv
theorem rc_tups (I : Inv X pins σ H s) {a b : Addr} {xs ys : List V} {ds : List Da} (ha : SqT X.K H a xs) (hb : SqT X.K H b ys) (h1 : Holds X.K H xs ds) (h2 : Holds X.K H ys ds) (hu : A.units < cLine)
    (el : ∀ d ∈ ds, ∀ (x y : V) (u v : Value), Hold X.K H x d → Hold X.K H y d → RelV x u → RelV y v → EqAt A.in1 s u v true) : RcAt A s (.ref a) (.ref b) true := by
  obtain ⟨its, r1, p1, _⟩ := I.tuple ha
  obtain ⟨its2, r2, p2, _⟩ := I.tuple hb
  have q := RcAt.tuples (s := s) (e := fun _ => true) (show s.heap.IsTuple a its.toArray from p1) (show s.heap.IsTuple b its2.toArray from p2) hu (same_items h1 h2 r1 r2 el)
  have e : its.toArray.size = its2.toArray.size := by
    rw [List.size_toArray, List.size_toArray, ← r1.length, ← r2.length, h1.length, h2.length]
  rw [e, List.all_eq_true.mpr (fun _ _ => rfl)] at q
  simpa using q
theorem rc_lsts (I : Inv X pins σ H s) {a b : Addr} {xs ys : List V} {ds : List Da} (ha : SqL X.K H a xs) (hb : SqL X.K H b ys) (h1 : Holds X.K H xs ds) (h2 : Holds X.K H ys ds) (hu : A.units < cLine)
    (el : ∀ d ∈ ds, ∀ (x y : V) (u v : Value), Hold X.K H x d → Hold X.K H y d → RelV x u → RelV y v → EqAt A.in1 s u v true) : RcAt A s (.ref a) (.ref b) true := by
  obtain ⟨its, r1, p1, _⟩ := I.list ha
  obtain ⟨its2, r2, p2, _⟩ := I.list hb
  have e : its.toArray.size = its2.toArray.size := by
    rw [List.size_toArray, List.size_toArray, ← r1.length, ← r2.length, h1.length, h2.length]
  have q := RcAt.lists (s := s) (e := fun _ => true) p1.isList p2.isList e hu (same_items h1 h2 r1 r2 el)
  rw [List.all_eq_true.mpr (fun _ _ => rfl)] at q
  exact q
theorem eq_same (I : Inv X pins σ H s) : ∀ (n : Nat) {d : Da} {x y : V} {u v : Value} {A : Around}, d.dep ≤ n → A.units + n < cLine → Hold X.K H x d → Hold X.K H y d → RelV x u → RelV y v → EqAt A s u v true
  | n, .flat w, x, y, u, v, A, _, _, hx, hy, rx, ry => by
    cases hx with
    | flat f =>
      cases hy
      have q := eqAt_V (A := A) (s := s) rx ry f f
      rw [eqV_self f] at q
      exact q
  | 0, .tup ds, _, _, _, _, _, h, _, _, _, _, _ => by rw [Da.dep] at h; omega
  | 0, .lst ds, _, _, _, _, _, h, _, _, _, _, _ => by rw [Da.dep] at h; omega
  | n + 1, .tup ds, x, y, u, v, A, h, hu, hx, hy, rx, ry => by
    rw [Da.dep] at h
    cases hx with
    | @tup a xs _ ha h1 =>
      cases hy with
      | @tup b ys _ hb h2 =>
        cases (show u = Value.ref a from rx)
        cases (show v = Value.ref b from ry)
        by_cases hab : a = b
        · rw [hab]
          exact EqAt.same _
        · refine EqAt.of_refs hab (rc_tups I ha hb h1 h2 (by omega) fun d hd x y u v kx ky qx qy => ?_)
          exact eq_same I n (Nat.le_trans (dep_mem hd) (by omega)) (by rw [PyProof.Rows.units_in1]; omega) kx ky qx qy
  | n + 1, .lst ds, x, y, u, v, A, h, hu, hx, hy, rx, ry => by
    rw [Da.dep] at h
    cases hx with
    | @lst a xs _ ha h1 =>
      cases hy with
      | @lst b ys _ hb h2 =>
        cases (show u = Value.ref a from rx)
        cases (show v = Value.ref b from ry)
        by_cases hab : a = b
        · rw [hab]
          exact EqAt.same _
        · refine EqAt.of_refs hab (rc_lsts I ha hb h1 h2 (by omega) fun d hd x y u v kx ky qx qy => ?_)
          exact eq_same I n (Nat.le_trans (dep_mem hd) (by omega)) (by rw [PyProof.Rows.units_in1]; omega) kx ky qx qy
/-- x == y, two tuples or two lists that hold the same data -/
def rEqS (K : PySem.W.Frag) : R2 := fun x y H Q => ∃ a b d, x = .ref a ∧ y = .ref b ∧ Hold K H x d ∧ Hold K H y d ∧ d.dep ≤ 60 ∧ Q (.bl true) H
end

/-! ### data, handed on -/
section
variable {K : PySem.W.Frag} {H H' : Hp}
theorem SqT.same {a : Addr} {xs : List V} (h : SqT K H a xs) (e : Same H H') : SqT K H' a xs := by
  rcases h with (h | ⟨o, h⟩) | h
  · exact .inl (.inl (e _ _ h))
  · exact .inl (.inr ⟨o, e _ _ h⟩)
  · exact .inr h
mutual
theorem Hold.mono (e : Same H H') : ∀ {x : V} {d : Da}, Hold K H x d → Hold K H' x d
  | _, _, .flat f => .flat f
  | _, _, .tup h r => .tup (h.same e) (Holds.mono e r)
  | _, _, .lst h r => .lst (e.seq h) (Holds.mono e r)
theorem Holds.mono (e : Same H H') : ∀ {xs : List V} {ds : List Da}, Holds K H xs ds → Holds K H' xs ds
  | _, _, .nil => .nil
  | _, _, .cons h r => .cons (Hold.mono e h) (Holds.mono e r)
end
theorem Holds.append : ∀ {xs ys : List V} {ds es : List Da}, Holds K H xs ds → Holds K H ys es → Holds K H (xs ++ ys) (ds ++ es)
  | [], _, _, _, h, k => by cases h; exact k
  | _ :: _, _, _, _, h, k => by
    cases h with
    | cons a r => exact .cons a (r.append k)
theorem Holds.one {x : V} {d : Da} (h : Hold K H x d) : Holds K H [x] [d] := .cons h .nil
theorem Hold.tupI {x : V} {ds : List Da} (h : Hold K H x (.tup ds)) : ∃ a xs, x = .ref a ∧ SqT K H a xs ∧ Holds K H xs ds := by
  cases h with
  | tup a r => exact ⟨_, _, rfl, a, r⟩
theorem Hold.flatI {x v : V} (h : Hold K H x (.flat v)) : x = v := by
  cases h
  rfl
theorem Holds.getm {α : Type} {f : α → Da} {vs : List V} {ls : List α} {i : Nat} {x : V} (h : Holds K H vs (ls.map f)) (e : vs[i]? = some x) : ∃ l, ls[i]? = some l ∧ Hold K H x (f l) := by
  obtain ⟨d, e1, k⟩ := h.get e
  rw [List.getElem?_map] at e1
  cases q : ls[i]? with
  | none => rw [q] at e1; cases e1
  | some l =>
    rw [q] at e1
    have e2 : f l = d := Option.some.inj e1
    rw [← e2] at k
    exact ⟨l, rfl, k⟩
theorem Holds.ints : ∀ {xs : List V} {ns : List Int}, Holds K H xs (ns.map fun v => .flat (.int v)) → xs = ns.map V.int
  | [], [], _ => rfl
  | [], _ :: _, h => by cases h
  | _ :: _, [], h => by cases h
  | _ :: _, _ :: _, h => by
    cases h with
    | cons a r => rw [a.flatI, r.ints]; rfl
theorem holds_ints : ∀ (ns : List Int), Holds K H (ns.map V.int) (ns.map fun v => .flat (.int v))
  | [] => .nil
  | _ :: r => .cons (.flat rfl) (holds_ints r)
end

/-! ### isinstance, of what is read too -/
section
variable {X : Cx}
inductive TyQ (K : PySem.W.Frag) (H : Hp) : V → Value → Prop where
  | of {x : V} {t : Value} : TyOf K H x t → TyQ K H x t
  | sqt {a : Addr} {xs : List V} : SqT K H a xs → TyQ K H (.ref a) (.type "tuple")
  | sql {a : Addr} {xs : List V} : SqL K H a xs → TyQ K H (.ref a) (.type "list")
def rIsq (K : PySem.W.Frag) : List V → Hp → VK → Prop := fun xs H Q => ∃ x t n b, xs = [x, .ty n] ∧ TyQ K H x t ∧ PySem.W.kitOne K t (.type n) = some b ∧ Q (.bl b) H
theorem call_isq : CallR X (.builtin "isinstance") (rIsq X.K) := by
  intro pins s σ H xs us Q I r h
  obtain ⟨x, t, n, b, rfl, ty, e, q⟩ := h
  obtain ⟨u, c, rfl, ru, rc⟩ := vals2 r
  cases (show c = Value.type n from rc)
  have fin : ∀ tk, EP X pins σ Q (.bool b) { s with toks := tk } := fun tk => ⟨.bl b, H, I.tok tk, rfl, q⟩
  cases ty with
  | of ty => exact isinst_ok I ru ty e fin
  | @sqt a xs h =>
    cases (show u = Value.ref a from ru)
    obtain ⟨its, _, ⟨o, h1, h2, _⟩, _⟩ := I.tuple h
    exact PySem.W.kia_one PySem.W.kitx_tuple I.kIn ⟨o, h1, h2⟩ e (fun z => nomatch z) fin
  | @sql a xs h =>
    cases (show u = Value.ref a from ru)
    obtain ⟨its, _, pl, _⟩ := I.list h
    obtain ⟨o, h1, h2, _⟩ := pl.isList
    exact PySem.W.kia_one PySem.W.kitx_list I.kIn ⟨o, h1, h2⟩ e (fun z => nomatch z) fin
end

/-! ### data made of tuples alone: it stays when lists change -/
mutual
def Da.fix : Da → Bool
  | .flat _ => true
  | .tup xs => fixL xs
  | .lst _ => false
def fixL : List Da → Bool
  | [] => true
  | d :: r => d.fix && fixL r
end
theorem fixL_map {α : Type} {f : α → Da} (h : ∀ a, (f a).fix = true) : ∀ l : List α, fixL (l.map f) = true
  | [] => by rw [List.map_nil, fixL]
  | a :: r => by rw [List.map_cons, fixL, h a, fixL_map h r]; rfl
/-- all tuples stand as they stood -/
def Tups (H H' : Hp) : Prop := (∀ b xs, H b = some (.tup xs) → H' b = some (.tup xs)) ∧ ∀ b o u, H b = some (.frz o u) → H' b = some (.frz o u)
theorem Tups.of {H H' : Hp} (e : Same H H') : Tups H H' := ⟨fun _ _ h => e _ _ h, fun _ _ _ h => e _ _ h⟩
theorem Tups.trans {H H1 H2 : Hp} (a : Tups H H1) (b : Tups H1 H2) : Tups H H2 := ⟨fun c xs h => b.1 c xs (a.1 c xs h), fun c o u h => b.2 c o u (a.2 c o u h)⟩
theorem Tups.put {H : Hp} {u : Addr} {xs : List V} (h : H u = some (.lst xs)) (o : HO) : Tups H (upd H u o) :=
  ⟨fun b ys e => by
    rw [upd_ne (ne_of e h (by intro z; cases z))]
    exact e, fun b ob v e => by
    rw [upd_ne (ne_of e h (by intro z; cases z))]
    exact e⟩
theorem Tups.but {H H' : Hp} {u : Addr} {xs : List V} (h : H u = some (.lst xs)) (k : ∀ b o, b ≠ u → H b = some o → H' b = some o) : Tups H H' :=
  ⟨fun b ys e => k b _ (ne_of e h (by intro z; cases z)) e, fun b ob v e => k b _ (ne_of e h (by intro z; cases z)) e⟩
section
variable {K : PySem.W.Frag} {H H' : Hp}
theorem SqT.tups {a : Addr} {xs : List V} (h : SqT K H a xs) (e : Tups H H') : SqT K H' a xs := by
  rcases h with (h | ⟨o, h⟩) | h
  · exact .inl (.inl (e.1 _ _ h))
  · exact .inl (.inr ⟨o, e.2 _ _ _ h⟩)
  · exact .inr h
mutual
theorem Hold.stay (e : Tups H H') : ∀ {x : V} {d : Da}, d.fix = true → Hold K H x d → Hold K H' x d
  | _, _, _, .flat f => .flat f
  | _, _, q, .tup h r => .tup (h.tups e) (Holds.stay e (by rw [Da.fix] at q; exact q) r)
  | _, _, q, .lst h r => by rw [Da.fix] at q; cases q
theorem Holds.stay (e : Tups H H') : ∀ {xs : List V} {ds : List Da}, fixL ds = true → Holds K H xs ds → Holds K H' xs ds
  | _, _, _, .nil => .nil
  | _, _, q, .cons h r => by
    rw [fixL, Bool.and_eq_true] at q
    exact .cons (Hold.stay e q.1 h) (Holds.stay e q.2 r)
end
end
end L2


set_option Elab.async false
set_option maxRecDepth 100000
set_option maxHeartbeats 4000000
/-! for a, b in zip(t, u): two tuples -/
namespace L2
open PySem PySem.Spec PyProof.Rows
open Sem (wp)
section
variable {prog : Program} {w : World} {A : Around} {E : Value → Shared → Prop} {s : Shared}
theorem drawT {it t : Addr} {k : Nat} {its : Array Value} {y : Value} {Q : Value → Shared → Prop} (hi : s.heap.IsTupleIter it t k) (ht : s.heap.IsTuple t its) (hy : its[k]? = some y)
    (hQ : ∀ h', h'.IsTupleIter it t (k + 1) → Heap.SameBut it s.heap h' → Q y { s with heap := h' }) : wpAny (model prog w) A (Builtin.SmallTypes.nextOf (.ref it)) Q E s := by
  obtain ⟨ob, g1, g2, g3⟩ := id hi
  obtain ⟨ot, t1, _, nt, t3⟩ := ht
  unfold Builtin.SmallTypes.nextOf
  refine wpAny_bind (wpAny_callSpecial?_slot (name := Str.ofString "__next__") hi.typeIs F.slot_tuple_iterator_next (wpAny_call_entry F.slot_tuple_iterator_next hi.typeIs F.entry_tuple_iterator_next ?_ (F.args_tuple_iterator_next_1 _)))
  show wpAny _ _ (field (.ref it) 0 >>= _) _ _ s
  refine wpAny_bind (wpAny_field g1 g3 (x := .ref t) rfl ?_)
  show wpAny _ _ (if (Value.ref t == Value.none) = true then _ else _) _ _ s
  rw [if_neg (show ¬ ((Value.ref t == Value.none) = true) from Bool.false_ne_true)]
  show wpAny _ _ (field (.ref it) 1 >>= _) _ _ s
  refine wpAny_bind (wpAny_field g1 g3 (x := .int k 0) rfl ?_)
  show wpAny _ _ (seqItems? (.ref t) >>= _) _ _ s
  refine wpAny_bind (wpAny_seqItems t1 t3 ?_)
  simp only [Int.toNat_natCast, hy]
  refine wpAny_bind (wpAny_setField g1 g3 (by simp) (wpAny_pure ⟨y, rfl, wpAny_pure (hQ _ ?_ (Heap.SameBut.update ..))⟩))
  exact ⟨_, Heap.get?_update_self _ g1 (Obj.isFreed_of_fields (Obj.data_mapFields g3 _)), (Obj.cls_mapFields ..).trans g2, by rw [Obj.data_mapFields g3]; simp [rawInt]⟩
theorem drawT_end {it t : Addr} {k : Nat} {its : Array Value} {Q : Value → Shared → Prop} (hh : A.handled = none) (hi : s.heap.IsTupleIter it t k) (ht : s.heap.IsTuple t its) (hy : its[k]? = none)
    (hE : ∀ h' e, Heap.ExtBut it s.heap h' → (∃ o, h'.get? e = some o ∧ o.cls = .type "StopIteration") → E (.ref e) { s with heap := h' }) : wpAny (model prog w) A (Builtin.SmallTypes.nextOf (.ref it)) Q E s := by
  obtain ⟨ob, g1, g2, g3⟩ := id hi
  obtain ⟨ot, t1, _, nt, t3⟩ := ht
  unfold Builtin.SmallTypes.nextOf
  refine wpAny_bind (wpAny_callSpecial?_slot (name := Str.ofString "__next__") hi.typeIs F.slot_tuple_iterator_next (wpAny_call_entry F.slot_tuple_iterator_next hi.typeIs F.entry_tuple_iterator_next ?_ (F.args_tuple_iterator_next_1 _)))
  show wpAny _ _ (field (.ref it) 0 >>= _) _ _ s
  refine wpAny_bind (wpAny_field g1 g3 (x := .ref t) rfl ?_)
  show wpAny _ _ (if (Value.ref t == Value.none) = true then _ else _) _ _ s
  rw [if_neg (show ¬ ((Value.ref t == Value.none) = true) from Bool.false_ne_true)]
  show wpAny _ _ (field (.ref it) 1 >>= _) _ _ s
  refine wpAny_bind (wpAny_field g1 g3 (x := .int k 0) rfl ?_)
  show wpAny _ _ (seqItems? (.ref t) >>= _) _ _ s
  refine wpAny_bind (wpAny_seqItems t1 t3 ?_)
  simp only [Int.toNat_natCast, hy]
  refine wpAny_bind (wpAny_rule (wpAny_bind (wpAny_setField g1 g3 (by simp) ?_)))
  show wpAny _ _ (newExc (.type "StopIteration") [] >>= _) _ _ _
  refine wpAny_bind ?_
  simp only [newExc, newTuple]
  refine wpAny_bind (wpAny_newObj_type ?_ (by size_fits))
  refine wpAny_bind (m := firstArgMember _ _) (wpAny_of_eq (a := Value.none) (by first | rfl | (simp only [firstArgMember]; rfl)) ?_)
  refine wpAny_newObj_type ?_ (by size_fits)
  simp only [raiseNew]
  refine wpAny_bind (wpAny_handled ?_)
  first | rw [show A.in1.handled = none from hh] | rw [hh]
  refine wpAny_bind (wpAny_pure (wpAny_throw ?_))
  exact hE _ _ (((Heap.SameBut.update ..).extBut.push _).push _) ⟨_, Heap.get?_push_size _ rfl, rfl⟩

/-- all that a zip of two tuples leans on, at turn k -/
structure ZipT (h : Heap) (z TI TO i1 i2 l1 l2 : Addr) (k : Nat) : Prop where
  zip : IsZip h z TI TO .none
  its : IsPair h TI (.ref i1) (.ref i2)
  out : ∃ a b, IsPair h TO a b
  one : h.IsTupleIter i1 l1 k
  two : h.IsTupleIter i2 l2 k

theorem zipT_next {z TI TO i1 i2 l1 l2 : Addr} {k : Nat} {xs ys : Array Value} {x y : Value} {Q : Value → Shared → Prop} (D : ZipApart z TI TO i1 i2 l1 l2) (Z : ZipT s.heap z TI TO i1 i2 l1 l2 k)
    (hl1 : s.heap.IsTuple l1 xs) (hl2 : s.heap.IsTuple l2 ys) (hx : xs[k]? = some x) (hy : ys[k]? = some y)
    (hQ : ∀ h', IsZip h' z TI TO (rawInt s.heap.objs.size) → IsPair h' TO x y → h'.IsTupleIter i1 l1 (k + 1) → h'.IsTupleIter i2 l2 (k + 1) → IsPair h' s.heap.objs.size x y →
      (∀ c o, c ≠ z → c ≠ TO → c ≠ i1 → c ≠ i2 → s.heap.get? c = some o → h'.get? c = some o) → Q (.ref s.heap.objs.size) { s with heap := h' }) :
    wpAny (model prog w) A (Builtin.«zip.__next__» ⟨[.ref z], []⟩) (fun fin s' => ∃ v, fin = .done (.ret v) ∧ Q v s') E s := by
  obtain ⟨hz, hTI, ⟨a, b, hTO⟩, h1, h2⟩ := Z
  show wpAny _ _ (field (.ref z) 2 >>= _) _ _ _
  refine wpAny_bind (wpAny_field hz rfl (x := .bool false) rfl ?_)
  show wpAny _ _ (field (.ref z) 3 >>= _) _ _ _
  refine wpAny_bind (wpAny_field hz rfl (x := .ref TI) rfl ?_)
  refine wpAny_bind (wpAny_seqItems hTI rfl ?_)
  show wpAny _ _ (Builtin.SmallTypes.ownedTupleIsFree (.ref z) >>= _) _ _ _
  refine wpAny_bind ?_
  unfold Builtin.SmallTypes.ownedTupleIsFree
  refine wpAny_bind (wpAny_field hz rfl (x := .none) rfl (wpAny_pure ?_))
  simp only [if_true]
  refine wpAny_bind (wpAny_rule ?_)
  refine wpAny_bind (wpAny_field hz rfl (x := .ref TO) rfl ?_)
  refine wpAny_bind (wpAny_setField_rec hz (by simp) fun ha za sa => ?_)
  replace za : IsZip ha z TI TO .ellipsis := za
  refine wpAny_bind ?_
  simp only [List.zipIdx_cons, List.zipIdx_nil, List.forIn_cons, List.forIn_nil]
  refine wpAny_bind (wpAny_bind (wpAny_onRaise ?_))
  show wpAny _ _ (Builtin.SmallTypes.nextOf (.ref i1) >>= _) _ _ _
  refine wpAny_bind (drawT (h1.extBut sa.extBut D.i1z) (hl1.extBut sa.extBut D.l1z) hx fun hb h1b sb => wpAny_pure ?_)
  have ob : IsPair hb TO a b := sb.extBut _ _ D.TOi1 (sa.extBut _ _ D.TOz hTO)
  refine wpAny_bind (wpAny_seqItems ob rfl ?_)
  refine wpAny_bind (wpAny_updateSeq_pair ob fun hc oc sc => ?_)
  replace oc : IsPair hc TO x b := oc
  refine wpAny_bind (wpAny_letGo (wpAny_pure ?_))
  refine wpAny_bind (wpAny_bind (wpAny_onRaise ?_))
  show wpAny _ _ (Builtin.SmallTypes.nextOf (.ref i2) >>= _) _ _ _
  refine wpAny_bind (drawT (((h2.extBut sa.extBut D.i2z).extBut sb.extBut D.i12.symm).extBut sc.extBut D.TOi2.symm) (((hl2.extBut sa.extBut D.l2z).extBut sb.extBut D.l2i1).extBut sc.extBut D.l2TO) hy fun hd h2d sd => wpAny_pure ?_)
  have od : IsPair hd TO x b := sd.extBut _ _ D.TOi2 oc
  refine wpAny_bind (wpAny_seqItems od rfl ?_)
  refine wpAny_bind (wpAny_updateSeq_pair od fun he oe se => ?_)
  replace oe : IsPair he TO x y := oe
  refine wpAny_bind (wpAny_letGo (wpAny_pure (wpAny_pure ?_)))
  refine wpAny_bind (wpAny_seqItems oe rfl ?_)
  refine wpAny_bind (wpAny_newTuple ?_)
  have zz : he.objs.size = s.heap.objs.size := by rw [se.1, sd.1, sc.1, sb.1, sa.1]
  have ze : IsZip he z TI TO .ellipsis := se.extBut _ _ D.TOz.symm (sd.extBut _ _ D.i2z.symm (sc.extBut _ _ D.TOz.symm (sb.extBut _ _ D.i1z.symm za)))
  have ke : ∀ c o, c ≠ z → c ≠ TO → c ≠ i1 → c ≠ i2 → s.heap.get? c = some o → he.get? c = some o := fun c o c1 c2 c3 c4 q =>
    se.extBut _ _ c2 (sd.extBut _ _ c4 (sc.extBut _ _ c2 (sb.extBut _ _ c3 (sa.extBut _ _ c1 q))))
  have e1 : he.IsTupleIter i1 l1 (k + 1) := ((h1b.extBut sc.extBut D.TOi1.symm).extBut sd.extBut D.i12).extBut se.extBut D.TOi1.symm
  have e2 : he.IsTupleIter i2 l2 (k + 1) := h2d.extBut se.extBut D.TOi2.symm
  have zlt : z < he.objs.size := Heap.lt_size ze
  show wpAny _ _ (Builtin.SmallTypes.ownedTupleHandOut (.ref z) (.ref he.objs.size) >>= _) _ _ _
  refine wpAny_bind ?_
  unfold Builtin.SmallTypes.ownedTupleHandOut
  have zf : IsZip (he.push { cls := .type "tuple", data := .seq #[x, y] }) z TI TO .ellipsis := Heap.get?_push_of_some _ ze
  refine wpAny_bind (wpAny_setField_rec zf (by simp) fun hg zg sg => ?_)
  replace zg : IsZip hg z TI TO (rawInt he.objs.size) := zg
  refine wpAny_setField_rec zg (by simp) fun hk zk sk => ?_
  replace zk : IsZip hk z TI TO (rawInt he.objs.size) := zk
  have up : ∀ c o, c ≠ z → he.get? c = some o → hk.get? c = some o := fun c o c1 q => sk.extBut _ _ c1 (sg.extBut _ _ c1 (Heap.get?_push_of_some _ q))
  have tk : IsPair hk he.objs.size x y := sk.extBut _ _ (Nat.ne_of_gt zlt) (sg.extBut _ _ (Nat.ne_of_gt zlt) (Heap.get?_push_size _ rfl))
  rw [zz] at zk tk
  refine wpAny_pure ⟨_, rfl, ?_⟩
  show Q (.ref he.objs.size) _
  rw [zz]
  obtain ⟨w1, v1, r1⟩ := e1
  obtain ⟨w2, v2, r2⟩ := e2
  exact hQ hk zk (up _ _ D.TOz oe) ⟨w1, up _ _ D.i1z v1, r1⟩ ⟨w2, up _ _ D.i2z v2, r2⟩ tk fun c o c1 c2 c3 c4 q => up c o c1 (ke c o c1 c2 c3 c4 q)
theorem zipT_item {z TI TO i1 i2 l1 l2 : Addr} {k : Nat} {xs ys : Array Value} {x y : Value} {Q : Option Value → Shared → Prop} (D : ZipApart z TI TO i1 i2 l1 l2) (Z : ZipT s.heap z TI TO i1 i2 l1 l2 k)
    (hl1 : s.heap.IsTuple l1 xs) (hl2 : s.heap.IsTuple l2 ys) (hx : xs[k]? = some x) (hy : ys[k]? = some y)
    (hQ : ∀ h', IsZip h' z TI TO (rawInt s.heap.objs.size) → IsPair h' TO x y → h'.IsTupleIter i1 l1 (k + 1) → h'.IsTupleIter i2 l2 (k + 1) → IsPair h' s.heap.objs.size x y →
      (∀ c o, c ≠ z → c ≠ TO → c ≠ i1 → c ≠ i2 → s.heap.get? c = some o → h'.get? c = some o) → Q (some (.ref s.heap.objs.size)) { s with heap := h' }) : wpAny (model prog w) A (pyNext (.ref z)) Q E s := by
  have hT : s.TypeIs (.ref z) "zip" := ⟨_, Z.zip, rfl⟩
  unfold pyNext
  exact wpAny_bind (wpAny_attempt (wpAny_callSpecial?_slot (name := Str.ofString "__next__") hT F.slot_zip_next (wpAny_call_entry F.slot_zip_next hT F.entry_zip_next
    (zipT_next D Z hl1 hl2 hx hy fun h' a1 a2 a3 a4 a5 a6 => wpAny_pure (hQ h' a1 a2 a3 a4 a5 a6)) (F.args_zip_next_1 _))))

theorem zipT_stop {z TI TO i1 i2 l1 l2 : Addr} {k : Nat} {xs ys : Array Value} {Q : Fin → Shared → Prop} (hh : A.handled = none) (D : ZipApart z TI TO i1 i2 l1 l2) (Z : ZipT s.heap z TI TO i1 i2 l1 l2 k)
    (hl1 : s.heap.IsTuple l1 xs) (hl2 : s.heap.IsTuple l2 ys) (hend : xs[k]? = none ∨ ys[k]? = none)
    (hE : ∀ h' e, (∀ c o, c ≠ z → c ≠ TO → c ≠ i1 → c ≠ i2 → s.heap.get? c = some o → h'.get? c = some o) → (∃ o, h'.get? e = some o ∧ o.cls = .type "StopIteration") → E (.ref e) { s with heap := h' }) :
    wpAny (model prog w) A (Builtin.«zip.__next__» ⟨[.ref z], []⟩) Q E s := by
  obtain ⟨hz, hTI, ⟨a, b, hTO⟩, h1, h2⟩ := Z
  show wpAny _ _ (field (.ref z) 2 >>= _) _ _ _
  refine wpAny_bind (wpAny_field hz rfl (x := .bool false) rfl ?_)
  show wpAny _ _ (field (.ref z) 3 >>= _) _ _ _
  refine wpAny_bind (wpAny_field hz rfl (x := .ref TI) rfl ?_)
  refine wpAny_bind (wpAny_seqItems hTI rfl ?_)
  show wpAny _ _ (Builtin.SmallTypes.ownedTupleIsFree (.ref z) >>= _) _ _ _
  refine wpAny_bind ?_
  unfold Builtin.SmallTypes.ownedTupleIsFree
  refine wpAny_bind (wpAny_field hz rfl (x := .none) rfl (wpAny_pure ?_))
  simp only [if_true]
  refine wpAny_bind (wpAny_rule ?_)
  refine wpAny_bind (wpAny_field hz rfl (x := .ref TO) rfl ?_)
  refine wpAny_bind (wpAny_setField_rec hz (by simp) fun ha za sa => ?_)
  replace za : IsZip ha z TI TO .ellipsis := za
  refine wpAny_bind ?_
  simp only [List.zipIdx_cons, List.zipIdx_nil, List.forIn_cons, List.forIn_nil]
  refine wpAny_bind (wpAny_bind (wpAny_onRaise ?_))
  show wpAny _ _ (Builtin.SmallTypes.nextOf (.ref i1) >>= _) _ _ _
  cases hx : xs[k]? with
  | none =>
    refine wpAny_bind (drawT_end hh (h1.extBut sa.extBut D.i1z) (hl1.extBut sa.extBut D.l1z) hx fun hb e sb he => ?_)
    obtain ⟨oe, he1, he2⟩ := he
    have zb : IsZip hb z TI TO .ellipsis := sb _ _ D.i1z.symm za
    have hez : e ≠ z := fun q => by subst q; rw [zb] at he1; cases he1; simp at he2
    refine wpAny_setField_rec zb (by simp) fun hc _ sc => hE hc e (fun c o c1 _ c3 _ q => sc.extBut _ _ c1 (sb _ _ c3 (sa.extBut _ _ c1 q))) ⟨oe, sc.extBut _ _ hez he1, he2⟩
  | some x =>
    have hy : ys[k]? = none := by
      rcases hend with q | q
      · rw [hx] at q; cases q
      · exact q
    refine wpAny_bind (drawT (h1.extBut sa.extBut D.i1z) (hl1.extBut sa.extBut D.l1z) hx fun hb h1b sb => wpAny_pure ?_)
    have ob : IsPair hb TO a b := sb.extBut _ _ D.TOi1 (sa.extBut _ _ D.TOz hTO)
    refine wpAny_bind (wpAny_seqItems ob rfl ?_)
    refine wpAny_bind (wpAny_updateSeq_pair ob fun hc oc sc => ?_)
    refine wpAny_bind (wpAny_letGo (wpAny_pure ?_))
    refine wpAny_bind (wpAny_bind (wpAny_onRaise ?_))
    show wpAny _ _ (Builtin.SmallTypes.nextOf (.ref i2) >>= _) _ _ _
    refine wpAny_bind (drawT_end hh (((h2.extBut sa.extBut D.i2z).extBut sb.extBut D.i12.symm).extBut sc.extBut D.TOi2.symm) (((hl2.extBut sa.extBut D.l2z).extBut sb.extBut D.l2i1).extBut sc.extBut D.l2TO) hy fun hd e sd he => ?_)
    obtain ⟨oe, he1, he2⟩ := he
    have zd : IsZip hd z TI TO .ellipsis := sd _ _ D.i2z.symm (sc.extBut _ _ D.TOz.symm (sb.extBut _ _ D.i1z.symm za))
    have hez : e ≠ z := fun q => by subst q; rw [zd] at he1; cases he1; simp at he2
    refine wpAny_setField_rec zd (by simp) fun hf _ sf => hE hf e (fun c o c1 c2 c3 c4 q => sf.extBut _ _ c1 (sd _ _ c4 (sc.extBut _ _ c2 (sb.extBut _ _ c3 (sa.extBut _ _ c1 q))))) ⟨oe, sf.extBut _ _ hez he1, he2⟩
theorem zipT_end {z TI TO i1 i2 l1 l2 : Addr} {k : Nat} {xs ys : Array Value} {Q : Option Value → Shared → Prop} (hh : A.handled = none) (D : ZipApart z TI TO i1 i2 l1 l2) (Z : ZipT s.heap z TI TO i1 i2 l1 l2 k)
    (hl1 : s.heap.IsTuple l1 xs) (hl2 : s.heap.IsTuple l2 ys) (hend : xs[k]? = none ∨ ys[k]? = none)
    (hQ : ∀ h', (∀ c o, c ≠ z → c ≠ TO → c ≠ i1 → c ≠ i2 → s.heap.get? c = some o → h'.get? c = some o) → Q none { s with heap := h' }) : wpAny (model prog w) A (pyNext (.ref z)) Q E s := by
  have hT : s.TypeIs (.ref z) "zip" := ⟨_, Z.zip, rfl⟩
  unfold pyNext
  refine wpAny_bind (wpAny_attempt (wpAny_callSpecial?_slot (name := Str.ofString "__next__") hT F.slot_zip_next (wpAny_call_entry F.slot_zip_next hT F.entry_zip_next
    (zipT_stop hh D Z hl1 hl2 hend fun h' e kk he => ?_) (F.args_zip_next_1 _))))
  obtain ⟨o, ho, hc⟩ := he
  refine wpAny_bind (wpAny_isInstance (T := "StopIteration") (b := true) ⟨o, ho, hc⟩ isSubtype_stop ?_)
  exact wpAny_pure (hQ _ kk)
end

abbrev zT1 (h : Heap) (a : Addr) : Heap := h.push { cls := .type "tuple_iterator", data := .fields #[.ref a, .int 0 0] }
abbrev zT2 (h : Heap) (a b : Addr) : Heap := (zT1 h a).push { cls := .type "tuple_iterator", data := .fields #[.ref b, .int 0 0] }
abbrev zT3 (h : Heap) (a b : Addr) : Heap := (zT2 h a b).push { cls := .type "tuple", data := .seq #[.ref h.objs.size, .ref (zT1 h a).objs.size] }
abbrev zT4 (h : Heap) (a b : Addr) : Heap := (zT3 h a b).push { cls := .type "tuple", data := .seq #[.none, .none] }
abbrev zT5 (h : Heap) (a b : Addr) : Heap := (zT4 h a b).push { cls := .type "zip", data := .fields #[.none, .bool false, .bool false, .ref (zT2 h a b).objs.size, .ref (zT3 h a b).objs.size] }
theorem meets_zipT (a b : Addr) (xs ys : Array Value) :
    Meets (Builtin.«zip.__new__» ⟨[.type "zip", .ref a, .ref b], []⟩) (fun _ R s => s.heap.IsTuple a xs ∧ s.heap.IsTuple b ys ∧ R (.ok (.ret (.ref (zT4 s.heap a b).objs.size))) { s with heap := zT5 s.heap a b }) :=
  .of_wp fun prog w A R s h => by
    obtain ⟨hp, gs, dr, tk, os⟩ := s; obtain ⟨h1, h2, h⟩ := h
    have hsub := sub_zip
    have k1 : Heap.IsTuple (Shared.heap ⟨hp, gs, dr, tk, os⟩) a xs := h1
    have k2 : Heap.IsTuple (Shared.heap ⟨hp.push { cls := .type "tuple_iterator", data := .fields #[.ref a, .int 0 0] }, gs, dr, tk, os⟩) b ys := Heap.IsTuple.push h2 _
    wp_walk using wpAny_pyIter_tuple k1, wpAny_pyIter_tuple k2
    exact ⟨_, rfl, h⟩
section
variable {prog : Program} {w : World} {A : Around} {E : Value → Shared → Prop} {s : Shared}
theorem call_zipT {a b : Addr} {xs ys : Array Value} {Q : Value → Shared → Prop} (h1 : s.heap.IsTuple a xs) (h2 : s.heap.IsTuple b ys)
    (h : ∀ h', ZipT h' (s.heap.objs.size + 4) (s.heap.objs.size + 2) (s.heap.objs.size + 3) s.heap.objs.size (s.heap.objs.size + 1) a b 0 → (∀ c o, s.heap.get? c = some o → h'.get? c = some o) → h'.objs.size = s.heap.objs.size + 5 →
      Q (.ref (s.heap.objs.size + 4)) { s with heap := h' }) : wpAny (model prog w) A (call (.type "zip") [.ref a, .ref b]) Q E s := by
  refine callType_new F.called_zip (by decide) (F.typeCall_zip_2 _ _) (F.newCall_zip_2 _ _) (fun obj => F.args_object_init_3 obj _ _) F.entry_zip_new (meets_zipT a b xs ys) ⟨h1, h2, ?_⟩
  have z1 : (zT1 s.heap a).objs.size = s.heap.objs.size + 1 := Heap.size_push ..
  have z2 : (zT2 s.heap a b).objs.size = s.heap.objs.size + 2 := by rw [Heap.size_push, z1]
  have z3 : (zT3 s.heap a b).objs.size = s.heap.objs.size + 3 := by rw [Heap.size_push, z2]
  have z4 : (zT4 s.heap a b).objs.size = s.heap.objs.size + 4 := by rw [Heap.size_push, z3]
  have z5 : (zT5 s.heap a b).objs.size = s.heap.objs.size + 5 := by rw [Heap.size_push, z4]
  have g5 : (zT5 s.heap a b).get? (zT4 s.heap a b).objs.size = some _ := Heap.get?_push_size _ rfl
  have g4 : (zT5 s.heap a b).get? (zT3 s.heap a b).objs.size = some _ := Heap.get?_push_of_some _ (Heap.get?_push_size _ rfl)
  have g3 : (zT5 s.heap a b).get? (zT2 s.heap a b).objs.size = some _ := Heap.get?_push_of_some _ (Heap.get?_push_of_some _ (Heap.get?_push_size _ rfl))
  have g2 : (zT5 s.heap a b).get? (zT1 s.heap a).objs.size = some _ := Heap.get?_push_of_some _ (Heap.get?_push_of_some _ (Heap.get?_push_of_some _ (Heap.get?_push_size _ rfl)))
  have g1 : (zT5 s.heap a b).get? s.heap.objs.size = some _ := Heap.get?_push_of_some _ (Heap.get?_push_of_some _ (Heap.get?_push_of_some _ (Heap.get?_push_of_some _ (Heap.get?_push_size _ rfl))))
  show _ ∧ _
  rw [z2, z3, z4] at g5
  rw [z1, z2] at g3
  rw [z3] at g4
  rw [z1] at g2
  rw [z4]
  exact ⟨⟨_, g5, rfl⟩, h _ ⟨g5, g3, ⟨_, _, g4⟩, ⟨_, g1, rfl, rfl⟩, ⟨_, g2, rfl, rfl⟩⟩
    (fun c o q => Heap.get?_push_of_some _ (Heap.get?_push_of_some _ (Heap.get?_push_of_some _ (Heap.get?_push_of_some _ (Heap.get?_push_of_some _ q))))) z5⟩
end

/-- the walk: at turn i a new pair of the i-th items -/
def Itz (K : PySem.W.Frag) (a b : Addr) : It :=
  ⟨fun i H => ∃ xs ys x y, SqT K H a xs ∧ SqT K H b ys ∧ xs[i]? = some x ∧ ys[i]? = some y,
   fun i H v H' => ∃ p x y, H p = none ∧ v = .ref p ∧ (∀ xs, SqT K H a xs → xs[i]? = some x) ∧ (∀ ys, SqT K H b ys → ys[i]? = some y) ∧ H' = upd H p (.tup [x, y]),
   fun i H => ∃ xs ys, SqT K H a xs ∧ SqT K H b ys ∧ (xs.length ≤ i ∨ ys.length ≤ i)⟩

theorem turn_zip {P : Program} {w : World} {K : PySem.W.Frag} {es : List Expr} {j : Nat} {pos : Pos} {z TI TO i1 i2 a b : Addr} (D : ZipApart z TI TO i1 i2 a b) :
    Turn P w K (.Tuple es j pos) (Itz K a b) [z, TI, TO, i1, i2] z (fun k h => ZipT h z TI TO i1 i2 a b k) where
  mem := by simp
  obj := fun k h Z c hc => by
    obtain ⟨u1, u2, ⟨_, _, u3⟩, ⟨o4, u4, _, v4⟩, ⟨o5, u5, _, v5⟩⟩ := Z
    simp only [List.mem_cons, List.not_mem_nil, or_false] at hc
    rcases hc with q | q | q | q | q
    · subst q; exact ⟨_, u1, fun v e => by cases (show Data.fields _ = Data.cell v from e)⟩
    · subst q; exact ⟨_, u2, fun v e => by cases (show Data.seq _ _ = Data.cell v from e)⟩
    · subst q; exact ⟨_, u3, fun v e => by cases (show Data.seq _ _ = Data.cell v from e)⟩
    · subst q; exact ⟨_, u4, fun v e => by rw [v4] at e; cases e⟩
    · subst q; exact ⟨_, u5, fun v e => by rw [v5] at e; cases e⟩
  keep := fun k h h' Z kk => by
    obtain ⟨u1, u2, ⟨c1, c2, u3⟩, ⟨o4, u4, r4⟩, ⟨o5, u5, r5⟩⟩ := Z
    exact ⟨kk z (by simp) _ u1, kk TI (by simp) _ u2, ⟨c1, c2, kk TO (by simp) _ u3⟩, ⟨o4, kk i1 (by simp) _ u4, r4⟩, ⟨o5, kk i2 (by simp) _ u5, r5⟩⟩
  item := by
    intro X hP hw hK hc k pins s σ H E I hf Z hg
    subst hP hw hK
    obtain ⟨xs, ys, x, y, hx, hy, ex, ey⟩ := hg
    obtain ⟨its, r1, p1, _⟩ := I.tuple hx
    obtain ⟨its2, r2, p2, _⟩ := I.tuple hy
    obtain ⟨u, eu, ru⟩ := r1.get ex
    obtain ⟨v, ev, rv⟩ := r2.get ey
    refine zipT_item D Z (show s.heap.IsTuple a its.toArray from p1) (show s.heap.IsTuple b its2.toArray from p2) (x := u) (y := v) (by simpa using eu) (by simpa using ev) fun h1 b1 b2 b3 b4 b5 kk => ?_
    refine ⟨_, rfl, wpAny_letOwnedTupleGo_zip b1 fun h2 c1 sb => ?_⟩
    have ks : ∀ c o, c ∉ [z, TI, TO, i1, i2] → s.heap.get? c = some o → h2.get? c = some o := fun c o hc q => by
      simp only [List.mem_cons, List.not_mem_nil, or_false, not_or] at hc
      exact sb.extBut _ _ hc.1 (kk c o hc.1 hc.2.2.1 hc.2.2.2.1 hc.2.2.2.2 q)
    have nz : s.heap.objs.size ≠ z := Nat.ne_of_gt (Heap.lt_size Z.zip)
    have b6 : IsPair h2 s.heap.objs.size u v := sb.extBut _ _ nz b5
    have I2 : Inv X pins σ H { s with heap := h2 } := I.turnedAll (t' := s.toks) hf ks
    have fT : FpOk X pins H s.heap.objs.size := I.fpOk (Nat.le_refl _) (I.hok.fresh (Nat.le_refl _))
    have I3 : Inv X pins σ (upd H s.heap.objs.size (.tup [x, y])) { s with heap := h2 } := I2.track fT I.sz
      ⟨by show 2 ≤ sizeLine; decide, [u, v], .cons ru (.cons rv .nil), ⟨_, b6, rfl, _, rfl⟩⟩
    refine ⟨.ref s.heap.objs.size, _, I3, rfl, ⟨_, x, y, fT.1, rfl, fun us hu => by rw [I.tuple_inj hu hx]; exact ex, fun us hu => by rw [I.tuple_inj hu hy]; exact ey, rfl⟩, ?_, fun c hc => ?_⟩
    · obtain ⟨w3, v3, q3⟩ := b3
      obtain ⟨w4, v4, q4⟩ := b4
      exact ⟨c1, sb.extBut _ _ D.TIz (kk _ _ D.TIz D.TITO D.TIi1 D.TIi2 Z.its), ⟨_, _, sb.extBut _ _ D.TOz b2⟩, ⟨w3, sb.extBut _ _ D.i1z v3, q3⟩, ⟨w4, sb.extBut _ _ D.i2z v4, q4⟩⟩
    · obtain ⟨o, q, _⟩ : ∃ o, s.heap.get? c = some o ∧ True := by
        obtain ⟨u1, u2, ⟨_, _, u3⟩, ⟨o4, u4, _⟩, ⟨o5, u5, _⟩⟩ := Z
        simp only [List.mem_cons, List.not_mem_nil, or_false] at hc
        rcases hc with q | q | q | q | q
        · subst q; exact ⟨_, u1, trivial⟩
        · subst q; exact ⟨_, u2, trivial⟩
        · subst q; exact ⟨_, u3, trivial⟩
        · subst q; exact ⟨_, u4, trivial⟩
        · subst q; exact ⟨_, u5, trivial⟩
      rw [upd_ne (Nat.ne_of_lt (Heap.lt_size q))]
      exact (hf c hc).1
  done := by
    intro X hP hw hK hc k pins s σ H E I hf Z hg
    subst hP hw hK
    obtain ⟨xs, ys, hx, hy, hend⟩ := hg
    obtain ⟨its, r1, p1, _⟩ := I.tuple hx
    obtain ⟨its2, r2, p2, _⟩ := I.tuple hy
    have l1 := r1.length
    have l2 := r2.length
    have en : its.toArray[k]? = none ∨ its2.toArray[k]? = none := by
      rcases hend with q | q
      · exact .inl (by simp; omega)
      · exact .inr (by simp; omega)
    refine zipT_end (I.ok.hd hc) D Z (show s.heap.IsTuple a its.toArray from p1) (show s.heap.IsTuple b its2.toArray from p2) en fun h1 kk => ⟨rfl, I.turnedAll (t' := s.toks) hf fun c o hc q => ?_⟩
    simp only [List.mem_cons, List.not_mem_nil, or_false, not_or] at hc
    exact kk c o hc.1 hc.2.2.1 hc.2.2.2.1 hc.2.2.2.2 q
  self := fun _ _ _ _ _ Z h => wpAny_pyIter_zip Z.zip h

section
variable {X : Cx}
def iZip (K : PySem.W.Frag) (ta : TA) : TI := fun σ H R => ta σ H fun vs H1 => ∃ a b xs ys, vs = [.ref a, .ref b] ∧ SqT K H1 a xs ∧ SqT K H1 b ys ∧ R (Itz K a b) H1
theorem pi_zip {e1 e2 : Expr} {ta : TA} {p pos tpos : Pos} {es : List Expr} {j : Nat} (hg : Gl X "zip") (hm : X.mg "zip" = none) (ha : PA X [e1, e2] ta) (hs : starEach [e1, e2] X.env = [(false, eval e1 X.env), (false, eval e2 X.env)] := by rfl)
    (hs2 : starEach [e2] X.env = [(false, eval e2 X.env)] := by rfl) : PI X (.Tuple es j tpos) (.Call (.Name "zip" p) [e1, e2] [] pos) (iZip X.K ta) := by
  intro pins s σ H R I h
  refine Call_ (ld_blt I hg hm (by kernel_rfl : bootBuiltins (Str.ofString "zip") = some (.type "zip")) (PyProof.Rows.callWith_type1 (thn (ha pos pins s σ H _ I h) fun us s1 ⟨vs, H1, I1, r1, q1⟩ => ?_) (by rw [hs, hs2]) (by rw [hs2]; rfl)))
  obtain ⟨a, b, xs, ys, e, hx, hy, q⟩ := q1
  subst e
  obtain ⟨u, v, rfl, ru, rv⟩ := vals2 r1
  cases (show u = Value.ref a from ru)
  cases (show v = Value.ref b from rv)
  obtain ⟨its, k1, p1, _⟩ := I1.tuple hx
  obtain ⟨its2, k2, p2, _⟩ := I1.tuple hy
  have a1 : a < s1.heap.objs.size := by obtain ⟨_, e, _⟩ := p1; exact Heap.lt_size e
  have a2 : b < s1.heap.objs.size := by obtain ⟨_, e, _⟩ := p2; exact Heap.lt_size e
  refine call_zipT (show s1.heap.IsTuple a its.toArray from p1) (show s1.heap.IsTuple b its2.toArray from p2) fun h2 Z kk sz => ?_
  have I2 : Inv X pins σ H1 { s1 with heap := h2 } := I1.kept (t' := s1.toks) kk
  refine wpAny_pyIter_zip Z.zip ⟨_, _, _, _, H1, rfl, I2, turn_zip (zipApart_new a1 a2), Z, fun c hc => ?_, q⟩
  refine I1.fpOk ?_ (I1.hok.fresh ?_)
  all_goals
    simp only [List.mem_cons, List.not_mem_nil, or_false] at hc
    rcases hc with q | q | q | q | q <;> subst q <;> omega
end
end L2


set_option Elab.async false
set_option maxRecDepth 100000
set_option maxHeartbeats 4000000
/-! More rules: names from a list, sum, all, a tuple backwards, a list longer by a tuple, a module's tuple -/
namespace L2
open PySem PySem.Spec PyProof.Rows
open Sem (wp)
/-! ### a, b, .. = a list -/
section
variable {prog : Program} {w : World} {A : Around} {E : Value → Shared → Prop}
end
section
variable {X : Cx} {pos : Pos}
def gLst (K : PySem.W.Frag) (n : Nat) (t : TGs) : TG := fun v σ H Q => ∃ a xs, v = .ref a ∧ SqL K H a xs ∧ xs.length = n ∧ t xs σ H Q

/-! ### sum of ints (which is not told), all of bools -/
def rSumZ (K : PySem.W.Frag) : List V → Hp → VK → Prop := fun xs H Q => ∃ (a : Addr) (ns : List Int), xs = [.ref a] ∧ SqL K H a (ns.map V.int) ∧ ns.length ≤ 1000 ∧ (∀ n ∈ ns, -1000000 ≤ n ∧ n ≤ 1000000) ∧ ∀ z : Int, Q (.int z) H
def rAllB (K : PySem.W.Frag) : List V → Hp → VK → Prop := fun xs H Q => ∃ (a : Addr) (bs : List Bool), xs = [.ref a] ∧ SqL K H a (bs.map V.bl) ∧ Q (.bl (bs.all id)) H
end
end L2

/-! ### t[::-1] -/
namespace HT
open PySem PyProof.Rows
section
variable {prog : Program} {w : World} {A : Around} {E : Value → Shared → Prop} {s : Shared}
end
end HT
namespace L2
open PySem PySem.Spec PyProof.Rows
section
variable {X : Cx} {e st : Expr} {te ts : TE} {pos p2 : Pos}
def tRev (K : PySem.W.Frag) (te ts : TE) : TE := fun σ H Q => te σ H fun x H1 => ts σ H1 fun y H2 => y = .int (-1) ∧ ∃ a xs, x = .ref a ∧ SqT K H2 a xs ∧ ∀ p, H2 p = none → Q (.ref p) (upd H2 p (.tup xs.reverse))

/-! ### xs.extend(t), t a tuple -/
def rExtT (K : PySem.W.Frag) : V → List V → Hp → VK → Prop := fun x vs H Q => ∃ l b xs zs, x = .ref l ∧ vs = [.ref b] ∧ H l = some (.lst xs) ∧ SqT K H b zs ∧ xs.length + zs.length ≤ sizeLine ∧ Q .non (upd H l (.lst (xs ++ zs)))
end
/-! ### argument lists and displays: a written constant first (shown once, whatever stands behind it) -/
section
variable {X : Cx} {es : List Expr} {te : TE} {t : TA}
theorem pc_c {c : Const} {k : Nat} {p : Pos} (ha : PE X (.Constant c k p) te) (hr : PA X es t) : PA X (.Constant c k p :: es) (tCons te t) := pa_cons ha hr
theorem pc_s {a b : Expr} {p : Pos} (ha : PE X (.Subscript a b p) te) (hr : PA X es t) : PA X (.Subscript a b p :: es) (tCons te t) := pa_cons ha hr
end
end L2


set_option Elab.async false
set_option maxRecDepth 100000
set_option maxHeartbeats 4000000
/-! x = [.. for ..]: the name is bound before the block's own names go. -/
namespace L2
open PySem PySem.Spec PyProof.Rows
theorem ps_setC {X : Cx} {i0 : Nat} {y0 : Str} {py spos : Pos} {elt iter tg : Expr} {ifs : List Expr} {sc : Scope} {pos : Pos} {ns ys : List Str} {fr : List Nat} {cl : List (Str × Addr)} {wi : TI} {g : TG} {tt : TT} {te : TE} (hN : X.N.Nodup) (hi0 : X.N[i0]? = some y0) (hy0 : X.env.scope.names.lookup y0 = some .local) (S : CScope X ns ys fr sc cl) (hc : X.calm = true)
    (hi : PI X tg iter wi) (hg : ∀ C s H fp, PG (cxC X (ns ++ ys) sc cl C s H fp) tg g) (ht : ∀ C s H fp, PTs (cxC X (ns ++ ys) sc cl C s H fp) ifs tt) (he : ∀ C s H fp, PE (cxC X (ns ++ ys) sc cl C s H fp) elt te)
    (hs : ∀ x, foldedSetIterable iter X.env x = pure x := by intro _; rfl) (hsw : swapsWith (.ListComp elt [⟨tg, iter, ifs, 0⟩] sc pos) (some (.Name y0 py)) spos.line X.env = pure true := by rfl) :
    PS X (.Assign [.Name y0 py] (.ListComp elt [⟨tg, iter, ifs, 0⟩] sc pos) spos) (fun D σ H => tComp ns.length fr wi g tt te σ H fun x H1 => D.nx (σ.set i0 (some x)) H1) := by
  intro pins s σ H D I h
  rw [exec_Assign_Name_used _ _ _ _ hsw]
  refine wpAny_bind (wpAny_standAt (wpAny_bind ?_))
  show wpAny _ _ (do let _ ← comprehension (.ListComp elt [⟨tg, iter, ifs, 0⟩] sc pos) sc X.env _ (newList []) false (eval iter X.env) (some (assign (.Name y0 py) X.env))) _ _ s
  refine wpAny_bind (wpAny_mono (wpAny_comprehension_free (use := some (assign (.Name y0 py) X.env)) (Q := fun _ s' => SP X pins D .next s') rfl hs S.clos S.kind S.locs (thn (hi pins s σ H _ I h) fun v s1 h1 => thn h1 fun itv s2 h2 => ?_)) (fun _ s' hq => wpAny_pure (wpAny_pure hq)) fun _ _ e => e)
  obtain ⟨it, fp, tn, J, H2, e, I2, T, st2, f2, rest⟩ := h2
  subst e
  obtain ⟨W, ⟨m0, w0⟩, turn⟩ := rest s2.heap.objs.size (I2.hok.fresh (Nat.le_refl _))
  refine wpAny_newObj_type (wpAny_newFunctionEnv S.nocell (by intro y hy; simp at hy) (fun h3 hn3 hb3 => ?_) S.kind)
  dsimp only at hn3 hb3 ⊢
  generalize hG : s2.heap.push { cls := .type "list", dict := none, data := .seq ([] : List Value).toArray } = G at hn3 hb3 ⊢
  have zG : G.objs.size = s2.heap.objs.size + 1 := by rw [← hG, Heap.size_push]
  have ltC : s2.heap.objs.size < G.objs.size := by rw [zG]; exact Nat.lt_succ_self _
  have old : ∀ b o, s2.heap.get? b = some o → h3.get? b = some o := fun b o e =>
    hb3.extBut b o (Nat.ne_of_lt (Nat.lt_trans (Heap.lt_size e) ltC)) (Heap.get?_push_of_some _ (hG ▸ Heap.get?_push_of_some _ e))
  have hD := hb3.extBut _ _ (Nat.ne_of_lt ltC) (Heap.get?_push_of_some _ (hG ▸ Heap.get?_push_size _ rfl))
  have below : ∀ b ∈ fp, b < s2.heap.objs.size := fun b hb => by
    obtain ⟨o, eo, _⟩ := T.obj _ _ st2 b hb
    exact Heap.lt_size eo
  have I3 := cxC_start (ns := ns) (ys := ys) (fr := fr) (t' := s2.toks + ([] : List (Str × Value)).length) I2 S f2 below ltC old hD hn3
  have stat : ∀ {H' : Hp}, (∀ b ∈ fp, H' b = none) → ∀ b ∈ fp, FpOk (cxC X (ns ++ ys) sc cl G.objs.size s2 H2 fp) [] H' b := fun hn b hb =>
    ⟨hn b hb, Nat.ne_of_lt (Nat.lt_trans (below b hb) ltC), I3.ok.exfs b hb, .inl hb, fun x c e => (I3.ok.exf b hb).2 x c e, fun p hp => nomatch hp⟩
  have st3 : tn 0 h3 := T.keep _ _ _ st2 fun b _ o e => old b o e
  have fr3 : ∀ b ∈ fp, upd H2 s2.heap.objs.size (.lst []) b = none := fun b hb => by
    rw [upd_ne (Nat.ne_of_lt (below b hb))]
    exact (f2 b hb).1
  have loop : ∀ s3 : Shared, s3 = { s2 with heap := h3, toks := s2.toks + ([] : List (Str × Value)).length } →
      codeAny (model X.prog X.w) X.A (.compLoop (.ListComp elt [⟨tg, iter, ifs, 0⟩] sc pos) 0 (.ref it) (.ref s2.heap.objs.size) (compEnvC sc cl G.objs.size X.env))
        (compPost (model X.prog X.w) X.A X.xe (some (assign (.Name y0 py) X.env)) (fun _ s' => SP X pins D .next s') (.ref s2.heap.objs.size) G.objs.size) s3 := by
    rintro s3 rfl
    refine lcLoop (fun n s' => ∃ i zs H', Inv (cxC X (ns ++ ys) sc cl G.objs.size s2 H2 fp) [] (List.replicate ns.length none ++ pick σ fr) H' s' ∧ tn i s'.heap ∧ (∀ b ∈ fp, H' b = none) ∧ W i n zs H') ?_ m0 ⟨0, [], _, I3, st3, fr3, w0⟩
    rintro n s5 ⟨i, zs, H5, I5, st5, fr5, w5⟩
    obtain ⟨d5, alt⟩ := turn i n zs H5 w5
    rcases alt with ⟨stop, q⟩ | ⟨go, hz, N, hN, step⟩
    · refine thn (T.done (cxC X (ns ++ ys) sc cl G.objs.size s2 H2 fp) rfl rfl rfl hc i [] s5 _ H5 _ I5 (stat fr5) st5 stop) fun r s6 ⟨hr, I6⟩ => ?_
      subst hr
      obtain ⟨m6, hn6, _⟩ := I6.loc
      have J6 : Inv X pins σ H5 s6 := cxC_back I2 f2 (Nat.le_of_lt ltC) I6 (Heap.SameBut.refl _ _)
      have lL : X.env.locals < s2.heap.objs.size := I2.lt
      have cL : ∀ x c, X.env.cells.lookup x = some c → c < s2.heap.objs.size := fun x c e => by
        obtain ⟨_, o, ho, _⟩ := I2.cell x c e
        exact Heap.lt_size ho
      show wpAny _ X.A (assign (.Name y0 py) X.env (.ref s2.heap.objs.size)) _ _ s6
      refine wpAny_assign_Name (store_ok2 (v := .ref s2.heap.objs.size) J6 hN hi0 (.inl hy0) rfl (fun s8 I8 ⟨b8, sb8, hb8⟩ => ?_) (.inr hy0))
      have nb : G.objs.size ≠ b8 := fun e => by
        rcases hb8 with z | z
        · exact absurd (e.trans z) (Nat.ne_of_gt (Nat.lt_trans lL ltC))
        · exact absurd e (Nat.ne_of_gt (Nat.lt_trans (cL _ _ z) ltC))
      refine ⟨m6, hn6.sameBut sb8 nb, fun h9 hs9 => ⟨_, H5, ?_, q⟩⟩
      refine I8.turned (it := G.objs.size) (t' := s8.toks) (fun b o hb e => (hs9.2 b hb).trans e) I6.free (Nat.ne_of_gt (Nat.lt_trans lL ltC)) (.inr (Nat.le_trans I2.sz (Nat.le_of_lt ltC))) (fun x c e => Nat.ne_of_lt (Nat.lt_trans (cL x c e) ltC)) fun p hp => ?_
      obtain ⟨e, _⟩ := I2.pin p hp
      exact Nat.ne_of_lt (Nat.lt_trans (Heap.lt_size e) ltC)
    · refine thn (T.item (cxC X (ns ++ ys) sc cl G.objs.size s2 H2 fp) rfl rfl rfl hc i [] s5 _ H5 _ I5 (stat fr5) st5 go) fun r s6 ⟨u, hr, h6⟩ => ?_
      subst hr
      refine thn h6 fun _ s7 ⟨x, H7, I7, r7, y7, st7, fr7⟩ => ?_
      have I7' := I7.pinned (stat fr7) (T.obj _ _ st7)
      refine thn (hg _ _ _ _ _ s7 _ H7 x u _ I7' r7 (step x H7 y7)) fun _ s8 ⟨σ8, H8, I8, ⟨ts, eσ, lts⟩, q8⟩ => ?_
      have again : ∀ {H9 : Hp} {s9 : Shared} {zs' : List V} {m' : Nat}, m' < n → Inv (cxC X (ns ++ ys) sc cl G.objs.size s2 H2 fp) ([] ++ pinsAt fp s7.heap) σ8 H9 s9 → W (i + 1) m' zs' H9 →
          ∃ m, m < n ∧ ∃ i zs H', Inv (cxC X (ns ++ ys) sc cl G.objs.size s2 H2 fp) [] (List.replicate ns.length none ++ pick σ fr) H' s9 ∧ tn i s9.heap ∧ (∀ b ∈ fp, H' b = none) ∧ W i m zs H' := fun {H9 s9 zs' m'} hm I9 w9 => by
        refine ⟨m', hm, i + 1, zs', H9, I9.unpinned.weak ?_ ?_, T.keep _ _ _ st7 fun b hb o e => (I9.pin (b, o) (List.mem_append_right _ (List.mem_append_right _ (mem_pinsAt hb e)))).1, fun b hb => ?_, w9⟩
        · rw [eσ, List.length_append, List.length_append, List.length_replicate, lts]
        · intro j v e
          rw [eσ]
          by_cases hj : j < ns.length
          · rw [List.getElem?_append_left (by simpa using hj), List.getElem?_replicate, if_pos hj] at e
            cases e
          · have hj' : ns.length ≤ j := Nat.le_of_not_lt hj
            rw [List.getElem?_append_right (by simpa using hj'), List.length_replicate] at e
            rw [List.getElem?_append_right (by rw [lts]; exact hj'), lts]
            exact e
        · obtain ⟨o, e, d⟩ := T.obj _ _ st7 b hb
          exact (I9.pin (b, o) (List.mem_append_right _ (List.mem_append_right _ (mem_pinsAt hb e)))).2.1
      refine thn (ht _ _ _ _ _ s8 σ8 H8 _ I8 q8) fun ok s9 ⟨H9, I9, q9⟩ => ?_
      cases ok with
      | false =>
        rw [if_neg Bool.false_ne_true] at q9 ⊢
        obtain ⟨m', hm, w9⟩ := hN _ _ q9
        exact again hm I9 w9
      | true =>
        rw [if_pos rfl] at q9 ⊢
        refine thn (he _ _ _ _ _ s9 σ8 H9 _ I9 q9) fun yv s10 ⟨y, H10, I10, r10, d10, w10⟩ => ?_
        refine thn (mt_append _ s10 σ8 H10 (.ref s2.heap.objs.size) [y] (.ref s2.heap.objs.size) [yv] (fun _ H11 => N (zs ++ [y]) H11) I10 rfl (.cons r10 .nil) ⟨_, zs, y, rfl, rfl, d10, hz, w10⟩) fun _ s11 ⟨_, H11, I11, _, w11⟩ => ?_
        obtain ⟨m', hm, w12⟩ := hN _ _ w11
        exact again hm I11 w12
  exact codeAny_compStart_list (loop _ rfl) (T.self X.A 0 _ _ _ st3 (loop _ rfl))


end L2


set_option Elab.async false
set_option maxRecDepth 100000
set_option maxHeartbeats 4000000
/-! x == y, x != y: two lists of the same data, or of unlike lengths -/
namespace L2
open PySem PySem.Spec PyProof.Rows
section
variable {X : Cx}
def rLL (K : PySem.W.Frag) (b : Bool) : R2 := fun x y H Q => ∃ l r xs ys, x = .ref l ∧ y = .ref r ∧ SqL K H l xs ∧ SqL K H r ys ∧ ((xs.length ≠ ys.length ∧ Q (.bl (!b)) H) ∨ ∃ ds, Holds K H xs ds ∧ Holds K H ys ds ∧ depL ds ≤ 60 ∧ Q (.bl b) H)
theorem op_eqLL (hu : X.A.units + 64 < cLine) : OpR X (compareOp .Eq) (rLL X.K true) := by
  intro pins s σ H x y v u Q I rx ry h
  obtain ⟨a, b, xs, ys, rfl, rfl, ha, hb, h⟩ := h
  cases rx
  cases ry
  rcases h with ⟨hl, q⟩ | ⟨ds, h1, h2, hd, q⟩
  · obtain ⟨its, r1, p1, _⟩ := I.list ha
    obtain ⟨its2, r2, p2, _⟩ := I.list hb
    have e : (its.toArray.size != its2.toArray.size) = true := by
      rw [List.size_toArray, List.size_toArray, ← r1.length, ← r2.length]
      simpa using hl
    exact SeqAt.RcAt.lists_lengths (A := X.A) (s := s) p1.isList p2.isList e (by omega) _ _ _ _ (show EP X pins σ Q (.bool false) s from ⟨.bl false, H, I, rfl, q⟩)
  · exact rc_lsts I ha hb h1 h2 (by omega) (fun d hm x y u v kx ky qx qy => eq_same I 60 (Nat.le_trans (dep_mem hm) (by omega)) (by rw [PyProof.Rows.units_in1]; omega) kx ky qx qy) _ _ _ _ (show EP X pins σ Q (.bool true) s from ⟨.bl true, H, I, rfl, q⟩)
theorem op_neLL (hu : X.A.units + 64 < cLine) : OpR X (compareOp .NotEq) (rLL X.K false) := by
  intro pins s σ H x y v u Q I rx ry h
  obtain ⟨a, b, xs, ys, rfl, rfl, ha, hb, h⟩ := h
  cases rx
  cases ry
  obtain ⟨its, r1, p1, _⟩ := I.list ha
  obtain ⟨its2, r2, p2, _⟩ := I.list hb
  rcases h with ⟨hl, q⟩ | ⟨ds, h1, h2, hd, q⟩
  · have e : (its.toArray.size != its2.toArray.size) = true := by
      rw [List.size_toArray, List.size_toArray, ← r1.length, ← r2.length]
      simpa using hl
    exact SeqAt.RcNeAt.lists_lengths (A := X.A) (s := s) p1.isList p2.isList e (by omega) _ _ _ _ (show EP X pins σ Q (.bool true) s from ⟨.bl true, H, I, rfl, q⟩)
  · have e : its.toArray.size = its2.toArray.size := by
      rw [List.size_toArray, List.size_toArray, ← r1.length, ← r2.length, h1.length, h2.length]
    have el := same_items (s := s) (A := X.A.in1) h1 h2 r1 r2 fun d hm x y u v kx ky qx qy => eq_same I 60 (Nat.le_trans (dep_mem hm) hd) (by rw [PyProof.Rows.units_in1]; omega) kx ky qx qy
    have qn := SeqAt.RcNeAt.lists (s := s) (A := X.A) (e := fun _ => true) p1.isList p2.isList e (by omega) el
    rw [List.all_eq_true.mpr (fun _ _ => rfl)] at qn
    have qm : SeqAt.RcNeAt X.A s (.ref a) (.ref b) false := by simpa using qn
    exact qm _ _ _ _ (show EP X pins σ Q (.bool false) s from ⟨.bl false, H, I, rfl, q⟩)
end
end L2


set_option Elab.async false
set_option maxRecDepth 100000
set_option maxHeartbeats 4000000
/-! sets of tuples of ints, small ones: the table's search, as a plain function -/
namespace PySem
namespace TupSet
open SetTable

/-- what a search comes to: `some none` = it is there, `some (some j)` = slot j is free -/
def srch (t : SetTable) (hs : Nat → Int) (eq : Nat → Bool) (h : Int) : Nat → Probe → Option (Option Nat)
  | 0, _ => none
  | f + 1, p => match t.probe hs h p with
    | some (.empty j none) => some (some j)
    | some (.candidate _ i next) => if eq i then some none else srch t hs eq h f next
    | _ => none

/-- a small table: mask 7, no dummies -/
structure Small (t : SetTable) (n : Nat) : Prop where
  mask : t.mask = 7
  dum : t.dummies = #[]
  size : t.place.size = n
  plain : t.plain = true

theorem Small.fill {t : SetTable} {n : Nat} (S : Small t n) : t.fill = n := by
  unfold SetTable.fill; rw [S.dum, S.size]; rfl

theorem Small.fresh (led : Bool) : Small (SetTable.fresh 0 0 led) 0 := ⟨rfl, rfl, rfl, rfl⟩

theorem below_go_le (xs : Array Nat) (j : Nat) : ∀ (f lo hi : Nat), lo ≤ hi → hi ≤ xs.size → below.go xs j f lo hi ≤ xs.size
  | 0, lo, hi, h1, h2 => by unfold below.go; omega
  | f + 1, lo, hi, h1, h2 => by
    unfold below.go
    dsimp only
    split
    · split
      · exact below_go_le xs j f _ _ (by omega) h2
      · exact below_go_le xs j f _ _ (by omega) (by omega)
    · omega
theorem below_le (xs : Array Nat) (j : Nat) : below xs j ≤ xs.size := below_go_le xs j _ _ _ (Nat.zero_le _) (Nat.le_refl _)

theorem insertAt_size {α : Type} (xs : Array α) (p : Nat) (x : α) (h : p ≤ xs.size) : (insertAt xs p x).size = xs.size + 1 := by
  unfold insertAt
  simp
  omega

theorem Small.put {t : SetTable} {n : Nat} (S : Small t n) (j : Nat) : Small (t.put j).1 (n + 1) ∧ (t.put j).2 ≤ n ∧ (t.put j).1.led = t.led ∧ (t.put j).1.moves = t.moves := by
  have hb := below_le t.place j
  refine ⟨⟨S.mask, ?_, ?_, S.plain⟩, by rw [← S.size]; exact hb, rfl, rfl⟩
  · show (if has t.dummies j then eraseAt t.dummies (below t.dummies j) else t.dummies) = #[]
    rw [S.dum]
    rw [if_neg]
    simp [has]
  · show (insertAt t.place (below t.place j) j).size = n + 1
    rw [insertAt_size _ _ _ hb, S.size]

theorem slot_empty {t : SetTable} {n j : Nat} (S : Small t n) (h : ∀ i : Nat, t.place[i]? ≠ some j) : t.slot j = .empty := by
  unfold SetTable.slot
  dsimp only
  rw [if_neg (by simpa using h _), if_neg (by rw [S.dum]; simp [has])]
theorem slot_live {t : SetTable} {j i : Nat} (h : t.slot j = .live i) : i < t.place.size := by
  unfold SetTable.slot at h
  dsimp only at h
  split at h
  · rename_i hp
    injection h with h
    rw [← h]
    have hp' : t.place[below t.place j]? = some j := by simpa using hp
    exact (Array.getElem?_eq_some_iff.mp hp').1
  · split at h <;> exact nomatch h
theorem slot_dummy {t : SetTable} {n j : Nat} (S : Small t n) (h : t.slot j = .dummy) : False := by
  unfold SetTable.slot at h
  dsimp only at h
  split at h
  · exact nomatch h
  · rw [S.dum] at h
    rw [if_neg (by simp [has])] at h
    exact nomatch h

/-- one of the first three slots is free where at most two are taken -/
theorem some_free {t : SetTable} {n : Nat} (S : Small t n) (hn : n ≤ 2) : ∃ j, j < 8 ∧ t.slot j = .empty := by
  have key : ∃ j, j < 3 ∧ j ∉ t.place.toList := by
    have hl : t.place.toList.length ≤ 2 := by rw [Array.length_toList, S.size]; exact hn
    match hp : t.place.toList, hl with
    | [], _ => exact ⟨0, by decide, by simp⟩
    | [a], _ => exact if h : a = 0 then ⟨1, by decide, by simp; omega⟩ else ⟨0, by decide, by simp; omega⟩
    | [a, b], _ =>
      by_cases h0 : a = 0 ∨ b = 0
      · by_cases h1 : a = 1 ∨ b = 1
        · exact ⟨2, by decide, by simp; omega⟩
        · exact ⟨1, by decide, by simp; omega⟩
      · exact ⟨0, by decide, by simp; omega⟩
    | _ :: _ :: _ :: _, h => simp at h
  obtain ⟨j, hj, hm⟩ := key
  refine ⟨j, by omega, slot_empty S fun i hi => hm ?_⟩
  obtain ⟨h1, h2⟩ := Array.getElem?_eq_some_iff.mp hi
  rw [← h2]; simp

/-- the walk comes to slot j₀ within k turns -/
def Comes (t : SetTable) (j₀ : Nat) : Nat → Probe → Prop
  | 0, p => p.j = j₀
  | k + 1, p => p.j = j₀ ∨ Comes t j₀ k (t.advance p)
theorem Comes.mono {t : SetTable} {j₀ : Nat} : ∀ {k m : Nat} {p : Probe}, Comes t j₀ k p → k ≤ m → Comes t j₀ m p
  | 0, 0, _, h, _ => h
  | 0, m + 1, _, h, _ => .inl h
  | k + 1, 0, _, _, h => absurd h (by omega)
  | k + 1, m + 1, _, .inl h, _ => .inl h
  | k + 1, m + 1, _, .inr h, hm => .inr (Comes.mono h (by omega))

theorem adv7 {t : SetTable} (hm : t.mask = 7) {p : Probe} (h0 : p.more = 0) :
    t.advance p = { j := (p.i * 5 + 1 + p.perturb / 32) % 8, more := 0, i := (p.i * 5 + 1 + p.perturb / 32) % 8, perturb := p.perturb / 32, dummy := p.dummy } := by
  unfold SetTable.advance
  rw [if_neg (by omega), hm]
  unfold leap
  dsimp only
  have : runEnd 7 ((p.i * 5 + 1 + p.perturb / 32) % 8) = (p.i * 5 + 1 + p.perturb / 32) % 8 := by
    unfold runEnd; rw [if_neg (by omega)]
  rw [this, Nat.sub_self]

/-- with no perturbation left, eight turns come by every slot -/
theorem comes_zero {t : SetTable} (hm : t.mask = 7) {j₀ : Nat} (hj : j₀ < 8) {p : Probe} (h0 : p.more = 0) (hi : p.i < 8) (hji : p.j = p.i) (hp : p.perturb = 0) : Comes t j₀ 8 p := by
  obtain ⟨pj, pm, pi, pp, pd⟩ := p
  dsimp only at h0 hi hji hp
  subst h0; subst hji; subst hp
  have e : ∀ i d, t.advance { j := i, more := 0, i := i, perturb := 0, dummy := d } = { j := (i * 5 + 1) % 8, more := 0, i := (i * 5 + 1) % 8, perturb := 0, dummy := d } := fun i d => by
    rw [adv7 hm rfl]; simp
  simp only [Comes, e]
  have : ∀ i < 8, ∀ j < 8, (i = j ∨ (i * 5 + 1) % 8 = j ∨ ((i * 5 + 1) % 8 * 5 + 1) % 8 = j ∨ (((i * 5 + 1) % 8 * 5 + 1) % 8 * 5 + 1) % 8 = j ∨ ((((i * 5 + 1) % 8 * 5 + 1) % 8 * 5 + 1) % 8 * 5 + 1) % 8 = j
      ∨ (((((i * 5 + 1) % 8 * 5 + 1) % 8 * 5 + 1) % 8 * 5 + 1) % 8 * 5 + 1) % 8 = j ∨ ((((((i * 5 + 1) % 8 * 5 + 1) % 8 * 5 + 1) % 8 * 5 + 1) % 8 * 5 + 1) % 8 * 5 + 1) % 8 = j ∨ (((((((i * 5 + 1) % 8 * 5 + 1) % 8 * 5 + 1) % 8 * 5 + 1) % 8 * 5 + 1) % 8 * 5 + 1) % 8 * 5 + 1) % 8 = j) := by decide
  have h := this pj hi j₀ hj
  omega

theorem comes_any {t : SetTable} (hm : t.mask = 7) {j₀ : Nat} (hj : j₀ < 8) : ∀ (k : Nat) {p : Probe}, p.more = 0 → p.i < 8 → p.j = p.i → p.perturb < 32 ^ k → Comes t j₀ (k + 8) p
  | 0, p, h0, hi, hji, hp => by
    have : p.perturb = 0 := by simpa using hp
    simpa using comes_zero hm hj h0 hi hji this
  | k + 1, p, h0, hi, hji, hp => by
    have e := adv7 hm h0
    have hp' : p.perturb / 32 < 32 ^ k := by
      rw [Nat.pow_succ] at hp
      exact Nat.div_lt_of_lt_mul (by rw [Nat.mul_comm]; exact hp)
    have := comes_any hm hj k (p := t.advance p) (by rw [e]) (by rw [e]; exact Nat.mod_lt _ (by decide)) (by rw [e]) (by rw [e]; exact hp')
    exact (show Comes t j₀ (k + 1 + 8) p from by
      rw [show k + 1 + 8 = (k + 8) + 1 by omega]
      exact .inr this)

theorem comes_start {t : SetTable} (hm : t.mask = 7) {j₀ : Nat} (hj : j₀ < 8) (h : Int) : Comes t j₀ 21 (t.probeStart h) ∧ (t.probeStart h).dummy = none := by
  have hb : bits h < 2 ^ 64 := by
    unfold bits
    have h1 : h % (2 ^ 64 : Int) < 2 ^ 64 := Int.emod_lt_of_pos _ (by decide)
    have h2 : 0 ≤ h % (2 ^ 64 : Int) := Int.emod_nonneg _ (by decide)
    omega
  refine ⟨comes_any hm hj 13 ?_ ?_ ?_ ?_, rfl⟩
  · unfold probeStart; dsimp only; rw [hm]
    have : runEnd 7 (bits h % (7 + 1)) = bits h % (7 + 1) := by unfold runEnd; rw [if_neg (by omega)]
    rw [this, Nat.sub_self]
  · unfold probeStart; dsimp only; rw [hm]; exact Nat.mod_lt _ (by decide)
  · rfl
  · show bits h < 32 ^ 13
    exact Nat.lt_of_lt_of_le hb (by decide)

/-- what one probe comes to -/
theorem go_ok {t : SetTable} {n : Nat} (S : Small t n) {hs : Nat → Int} {h : Int} {j₀ : Nat} (he : t.slot j₀ = .empty) : ∀ (k f : Nat) (p : Probe), Comes t j₀ k p → p.dummy = none → k < f →
    (∃ j, probe.go t hs h f p = some (.empty j none)) ∨ (∃ j i next, probe.go t hs h f p = some (.candidate j i next) ∧ t.slot j = .live i ∧ next.dummy = none ∧ 0 < k ∧ Comes t j₀ (k - 1) next)
  | k, 0, _, _, _, h => absurd h (by omega)
  | k, f + 1, p, hc, hd, hf => by
    unfold probe.go
    match hs' : t.slot p.j with
    | .empty => exact .inl ⟨p.j, by rw [hd]⟩
    | .dummy => exact (slot_dummy S hs').elim
    | .live i =>
      have hne : p.j ≠ j₀ := by rintro e; rw [e, he] at hs'; exact nomatch hs'
      match k, hc with
      | 0, hc => exact absurd hc hne
      | k + 1, hc =>
        have hc' : Comes t j₀ k (t.advance p) := hc.resolve_left hne
        have hd' : (t.advance p).dummy = none := by
          unfold SetTable.advance; split <;> exact hd
        dsimp only
        by_cases hh : (hs i == h) = true
        · rw [if_pos hh]
          exact .inr ⟨p.j, i, _, rfl, hs', hd', by omega, by simpa using hc'⟩
        · rw [if_neg hh]
          rcases go_ok S he k f _ hc' hd' (by omega) with ⟨j, e⟩ | ⟨j, i', nx, e, e1, e2, e3, e4⟩
          · exact .inl ⟨j, e⟩
          · exact .inr ⟨j, i', nx, e, e1, e2, by omega, Comes.mono e4 (by omega)⟩

theorem srch_ok {t : SetTable} {n : Nat} (S : Small t n) {hs : Nat → Int} {eq : Nat → Bool} {h : Int} {j₀ : Nat} (he : t.slot j₀ = .empty) : ∀ (k f : Nat) (p : Probe), Comes t j₀ k p → p.dummy = none → k < f → k < 220 → ∃ r, srch t hs eq h f p = some r
  | k, 0, _, _, _, h, _ => absurd h (by omega)
  | k, f + 1, p, hc, hd, hf, hk => by
    unfold srch
    have hp : t.probe hs h p = probe.go t hs h 220 p := by unfold SetTable.probe turns; rw [S.mask]
    rw [hp]
    rcases go_ok S (hs := hs) (h := h) he k 220 p hc hd hk with ⟨j, e⟩ | ⟨j, i, nx, e, e1, e2, e3, e4⟩
    · rw [e]; exact ⟨_, rfl⟩
    · rw [e]
      dsimp only
      by_cases hq : eq i = true
      · rw [if_pos hq]; exact ⟨_, rfl⟩
      · rw [if_neg hq]
        exact srch_ok S he (k - 1) f nx e4 e2 (by omega) (by omega)

theorem srch_some {t : SetTable} {n : Nat} (S : Small t n) (hn : n ≤ 2) (hs : Nat → Int) (eq : Nat → Bool) (h : Int) : ∃ r, srch t hs eq h 100000 (t.probeStart h) = some r := by
  obtain ⟨j, hj, he⟩ := some_free S hn
  have hc := comes_start S.mask hj h
  exact srch_ok S he 21 100000 _ hc.1 hc.2 (by omega) (by omega)

/-- a search says the same of two tables that are alike but in `led` -/
theorem cand {t : SetTable} {n : Nat} (S : Small t n) {hs : Nat → Int} {h : Int} {p : Probe} {j i : Nat} {nx : Probe} : ∀ f, probe.go t hs h f p = some (.candidate j i nx) → t.slot j = .live i ∧ i < n ∧ hs i = h := by
  intro f
  induction f generalizing p with
  | zero => intro e; exact nomatch e
  | succ f ih =>
    intro e
    unfold probe.go at e
    match hs' : t.slot p.j with
    | .empty => rw [hs'] at e; exact nomatch e
    | .dummy => exact (slot_dummy S hs').elim
    | .live i' =>
      rw [hs'] at e
      dsimp only at e
      by_cases hh : (hs i' == h) = true
      · rw [if_pos hh] at e
        injection e with e
        injection e with e1 e2 e3
        subst e1; subst e2
        exact ⟨hs', by rw [← S.size]; exact slot_live hs', by simpa using hh⟩
      · rw [if_neg hh] at e
        exact ih e
end TupSet
end PySem


set_option Elab.async false
set_option maxRecDepth 100000
set_option maxHeartbeats 4000000
set_option linter.unusedVariables false
/-! sets of tuples of ints, small ones: what the heap holds, the search, the adding -/
namespace PySem
namespace TupSet
open SetTable

section
variable (prog : Program) (w : World)
def hashT (x : List Int) : Int := tupleKeyHash (intKind prog w) x
def EntOf (h : Heap) (e : Int × Value) (x : List Int) : Prop := e.1 = hashT prog w x ∧ ∃ a, e.2 = .ref a ∧ IsTupleKey (intKind prog w) h x a
def EntsOf (h : Heap) : List (Int × Value) → List (List Int) → Prop
  | [], [] => True
  | e :: es, x :: xs => EntOf prog w h e x ∧ EntsOf h es xs
  | _, _ => False

/-- a small set object of tuples of ints -/
def TSet (h : Heap) (S : Addr) (t : SetTable) (xs : List (List Int)) : Prop :=
  ∃ o es ep, h.get? S = some o ∧ o.ExactSet ∧ o.data = .set es ep t ∧ Small t xs.length ∧ EntsOf prog w h es.toList xs

/-- what adding does, as a plain function -/
def addT (st : SetTable × List (List Int)) (x : List Int) : SetTable × List (List Int) :=
  match srch st.1 (fun i => ((st.2[i]?).map (hashT prog w)).getD 0) (fun i => decide (st.2[i]? = some x)) (hashT prog w x) 100000 (st.1.probeStart (hashT prog w x)) with
  | some (some j) => ((st.1.put j).1, st.2.take (st.1.put j).2 ++ x :: st.2.drop (st.1.put j).2)
  | _ => st
end

section
variable {prog : Program} {w : World}
theorem EntsOf.length {h : Heap} : ∀ {es : List (Int × Value)} {xs : List (List Int)}, EntsOf prog w h es xs → es.length = xs.length
  | [], [], _ => rfl
  | [], _ :: _, h => h.elim
  | _ :: _, [], h => h.elim
  | _ :: es, _ :: xs, h => by simp [EntsOf.length h.2]
theorem EntsOf.get {h : Heap} : ∀ {es : List (Int × Value)} {xs : List (List Int)} (_ : EntsOf prog w h es xs) {i : Nat} {e : Int × Value}, es[i]? = some e → ∃ x, xs[i]? = some x ∧ EntOf prog w h e x
  | [], [], _, i, e, he => by simp at he
  | [], _ :: _, h, _, _, _ => h.elim
  | _ :: _, [], h, _, _, _ => h.elim
  | e' :: es, x :: xs, h, 0, e, he => by simp at he; subst he; exact ⟨x, rfl, h.1⟩
  | e' :: es, x :: xs, h, i + 1, e, he => by simpa using EntsOf.get h.2 (i := i) (by simpa using he)
theorem EntsOf.hash {h : Heap} : ∀ {es : List (Int × Value)} {xs : List (List Int)} (_ : EntsOf prog w h es xs) (i : Nat), ((es[i]?).map (·.1)).getD 0 = ((xs[i]?).map (hashT prog w)).getD 0
  | [], [], _, i => by simp
  | [], _ :: _, h, _ => h.elim
  | _ :: _, [], h, _ => h.elim
  | e' :: es, x :: xs, h, 0 => by simpa using h.1.1
  | e' :: es, x :: xs, h, i + 1 => by simpa using EntsOf.hash h.2 i
theorem EntsOf.take {h : Heap} : ∀ {es : List (Int × Value)} {xs : List (List Int)} (_ : EntsOf prog w h es xs) (p : Nat), EntsOf prog w h (es.take p) (xs.take p)
  | [], [], _, p => by simp [EntsOf]
  | [], _ :: _, h, _ => h.elim
  | _ :: _, [], h, _ => h.elim
  | e' :: es, x :: xs, h, 0 => by simp [EntsOf]
  | e' :: es, x :: xs, h, p + 1 => by simpa [EntsOf] using ⟨h.1, EntsOf.take h.2 p⟩
theorem EntsOf.drop {h : Heap} : ∀ {es : List (Int × Value)} {xs : List (List Int)} (_ : EntsOf prog w h es xs) (p : Nat), EntsOf prog w h (es.drop p) (xs.drop p)
  | [], [], _, p => by simp [EntsOf]
  | [], _ :: _, h, _ => h.elim
  | _ :: _, [], h, _ => h.elim
  | e' :: es, x :: xs, h, 0 => h
  | e' :: es, x :: xs, h, p + 1 => by simpa using EntsOf.drop h.2 p
theorem EntsOf.app {h : Heap} : ∀ {es es' : List (Int × Value)} {xs xs' : List (List Int)} (_ : EntsOf prog w h es xs) (_ : EntsOf prog w h es' xs'), EntsOf prog w h (es ++ es') (xs ++ xs')
  | [], _, [], _, _, h' => h'
  | [], _, _ :: _, _, h, _ => h.elim
  | _ :: _, _, [], _, h, _ => h.elim
  | e' :: es, _, x :: xs, _, h, h' => ⟨h.1, EntsOf.app h.2 h'⟩
theorem EntsOf.imp {h h' : Heap} (k : ∀ x a, IsTupleKey (intKind prog w) h x a → IsTupleKey (intKind prog w) h' x a) : ∀ {es : List (Int × Value)} {xs : List (List Int)} (_ : EntsOf prog w h es xs), EntsOf prog w h' es xs
  | [], [], _ => trivial
  | [], _ :: _, h => h.elim
  | _ :: _, [], h => h.elim
  | e' :: es, x :: xs, h => ⟨⟨h.1.1, h.1.2.elim fun a ha => ⟨a, ha.1, k _ _ ha.2⟩⟩, EntsOf.imp k h.2⟩

theorem isInt_of {k : Int} {v : Value} (h : (intKind prog w).is k v = true) : ∃ t, v = .int k t := by
  have h' : Value.isInt k v = true := h
  cases v <;> simp [Value.isInt] at h'
  exact ⟨_, by rw [h']⟩


variable {A : Around} {E : Value → Shared → Prop} {s : Shared}

theorem items_int {ks : List Int} {vs : List Value} (h : ItemsAre (intKind prog w) ks vs) : ∀ v ∈ vs, ∃ k t, v = .int k t := by
  induction h with
  | nil => intro v hv; simp at hv
  | @cons k v' ks vs h1 _ ih =>
    intro v hv
    rcases List.mem_cons.mp hv with rfl | hv
    · exact ⟨k, isInt_of h1⟩
    · exact ih v hv

theorem wp_hashByValue {ks : List Int} {a : Addr} {Q : Bool → Shared → Prop} (hk : IsTupleKey (intKind prog w) s.heap ks a) (h : Q true s) : wpAny (model prog w) A (hashByValue 8 (.ref a)) Q E s := by
  have hT := hk.typeIs
  obtain ⟨o, items, n, ho, _, hd, hi⟩ := hk
  unfold hashByValue
  refine wpAny_bind (wpAny_specialOf hT F.slot_tuple_hash.lookup ?_)
  dsimp only
  refine wpAny_bind (wpAny_seqItems ho hd ?_)
  refine wpAny_bind ?_
  show wpAny _ _ (forIn items _ _) _ _ s
  rw [← Array.forIn_toList]
  refine wpAny_forIn_list _ (fun rest r s' => r.1 = none ∧ s' = s ∧ ∀ v ∈ rest, ∃ k t, v = Value.int k t) _ ?_ ?_ _ _ ⟨rfl, rfl, items_int hi⟩
  · rintro v rest r s' ⟨hr, rfl, hall⟩
    obtain ⟨k, t, rfl⟩ := hall v List.mem_cons_self
    refine wpAny_bind (m := hashByValue 7 (.int k t)) (wpAny_pure ?_)
    simp only [Bool.not_true, Bool.false_eq_true, if_false]
    exact wpAny_pure ⟨rfl, rfl, fun u hu' => hall u (List.mem_cons_of_mem _ hu')⟩
  · rintro ⟨r1, r2⟩ s' ⟨hr, rfl, _⟩
    simp only at hr
    subst hr
    exact wpAny_pure h

theorem wp_ofAClass {ks : List Int} {a : Addr} {Q : Bool → Shared → Prop} (hk : IsTupleKey (intKind prog w) s.heap ks a) (h : Q false s) : wpAny (model prog w) A (ofAClassStatement 8 (.ref a)) Q E s := by
  have hT := hk.typeIs
  obtain ⟨o, items, n, ho, hc, hd, hi⟩ := hk
  unfold ofAClassStatement
  refine wpAny_bind (wpAny_typeOf hT ?_)
  dsimp only
  rw [if_pos (by decide)]
  refine wpAny_bind (wpAny_pure ?_)
  simp only [Bool.not_true, Bool.false_eq_true, if_false]
  refine wpAny_bind (wpAny_seqItems ho hd ?_)
  dsimp only
  refine wpAny_bind ?_
  show wpAny _ _ (forIn items _ _) _ _ s
  rw [← Array.forIn_toList]
  refine wpAny_forIn_list _ (fun rest r s' => r.1 = none ∧ s' = s ∧ ∀ v ∈ rest, ∃ k t, v = Value.int k t) _ ?_ ?_ _ _ ⟨rfl, rfl, items_int hi⟩
  · rintro v rest r s' ⟨hr, rfl, hall⟩
    obtain ⟨k, t, rfl⟩ := hall v List.mem_cons_self
    refine wpAny_bind (m := ofAClassStatement 7 (.int k t)) (wpAny_pure ?_)
    simp only [Bool.false_eq_true, if_false]
    exact wpAny_pure ⟨rfl, rfl, fun u hu' => hall u (List.mem_cons_of_mem _ hu')⟩
  · rintro ⟨r1, r2⟩ s' ⟨hr, rfl, _⟩
    simp only at hr
    subst hr
    exact wpAny_pure h

theorem wp_if {α : Type} {M : Model} {c : Bool} {m m' : Sem α} {Q : α → Shared → Prop} (h1 : wpAny M A m Q E s) (h2 : wpAny M A m' Q E s) : wpAny M A (if c = true then m else m') Q E s := by
  cases c
  · exact h2
  · exact h1

theorem wp_notSeen {x : List Int} {a : Addr} {stored : List Value} {Q : Bool → Shared → Prop} (hx : IsTupleKey (intKind prog w) s.heap x a) (hs : ∀ v ∈ stored, ∃ b y, v = .ref b ∧ IsTupleKey (intKind prog w) s.heap y b) (h : Q false s) :
    wpAny (model prog w) A (searchCouldBeSeen (.ref a) stored) Q E s := by
  unfold searchCouldBeSeen
  refine wpAny_bind ?_
  refine wpAny_forIn_list _ (fun rest r s' => r.1 = none ∧ s' = s ∧ ∀ v ∈ rest, ∃ b y, v = .ref b ∧ IsTupleKey (intKind prog w) s.heap y b) _ ?_ ?_ _ _ ⟨rfl, rfl, hs⟩
  · rintro v rest r s' ⟨hr, rfl, hall⟩
    obtain ⟨b, y, rfl, hy⟩ := hall v List.mem_cons_self
    have hrest : ∀ u ∈ rest, ∃ b y, u = .ref b ∧ IsTupleKey (intKind prog w) s'.heap y b := fun u hu' => hall u (List.mem_cons_of_mem _ hu')
    dsimp only [carriedByValue]
    refine wp_if ?_ ?_
    · exact wpAny_pure ⟨rfl, rfl, hrest⟩
    · refine wpAny_bind (wpAny_eqIsQuiet_tuple hx ?_)
      simp only [Bool.not_true, Bool.false_eq_true, if_false]
      refine wpAny_bind (wpAny_eqIsQuiet_tuple hy ?_)
      simp only [Bool.not_true, Bool.false_eq_true, if_false]
      refine wpAny_bind (wp_ofAClass hx ?_)
      simp only [Bool.false_eq_true, if_false]
      refine wpAny_bind (wp_ofAClass hy ?_)
      simp only [Bool.false_eq_true, if_false]
      exact wpAny_pure ⟨rfl, rfl, hrest⟩
  · rintro ⟨r1, r2⟩ s' ⟨hr, rfl, _⟩
    simp only at hr
    subst hr
    exact wpAny_pure h

theorem Small.fits {t : SetTable} {n : Nat} (S : Small t n) (hn : n ≤ 3) : t.fits n = true := by
  unfold SetTable.fits
  rw [S.fill, S.size, S.mask]
  simp; omega
theorem Small.gave {t : SetTable} {n : Nat} (S : Small t n) : t.gaveWay = false := by
  unfold SetTable.gaveWay; rw [S.mask]; rfl

theorem wp_search {S a : Addr} {o : Obj} {es : Array (Int × Value)} {ep : Nat} {t : SetTable} {xs : List (List Int)} {x : List Int} {Q : SetFound → Shared → Prop}
    (hu : A.units < cLine) (ho : s.heap.get? S = some o) (hd : o.data = .set es ep t) (Sm : Small t xs.length) (hn : xs.length ≤ 3) (hE : EntsOf prog w s.heap es.toList xs)
    (hx : IsTupleKey (intKind prog w) s.heap x a) (h : Int) : ∀ (f : Nat) (stand : Option Probe) (r : Option Nat),
      srch t (fun i => ((xs[i]?).map (hashT prog w)).getD 0) (fun i => decide (xs[i]? = some x)) h f (stand.getD (t.probeStart h)) = some r →
      (match r with | none => Q (.there none) s | some j => Q (.free j false) s) →
      wpAny (model prog w) A (setSearchFrom S (.ref a) h true f stand) Q E s
  | 0, _, _, e, _ => nomatch e
  | f + 1, stand, r, e, hQ => by
    have hlen := hE.length
    rw [Array.length_toList] at hlen
    have hfit : t.fits es.size = true := by rw [hlen]; exact Sm.fits hn
    unfold setSearchFrom
    refine wpAny_bind (wpAny_setState_of ho hd hfit ?_)
    dsimp only
    rw [Sm.gave]
    simp only [Bool.false_eq_true, if_false]
    unfold srch at e
    have hg : ∀ g : Nat → Int, (∀ i, g i = ((es[i]?).map (·.1)).getD 0) → g = fun i => ((xs[i]?).map (hashT prog w)).getD 0 := fun g hg => funext fun i => by
      rw [hg i, ← hE.hash i, Array.getElem?_toList]
    match hp : t.probe (fun i => ((xs[i]?).map (hashT prog w)).getD 0) h (stand.getD (t.probeStart h)) with
    | none => rw [hp] at e; exact nomatch e
    | some (.empty j (some d)) => rw [hp] at e; exact nomatch e
    | some (.empty j none) =>
      rw [hp] at e
      injection e with e
      subst e
      have hp' : ∀ g : Nat → Int, (∀ i, g i = ((es[i]?).map (·.1)).getD 0) → t.probe g h (stand.getD (t.probeStart h)) = some (.empty j none) := fun g hg' => by rw [hg g hg']; exact hp
      rw [hp']
      · dsimp only
        exact wpAny_pure hQ
      · intro i; rfl
    | some (.candidate j i next) =>
      rw [hp] at e
      dsimp only at e
      have hp' : ∀ g : Nat → Int, (∀ i, g i = ((es[i]?).map (·.1)).getD 0) → t.probe g h (stand.getD (t.probeStart h)) = some (.candidate j i next) := fun g hg' => by rw [hg g hg']; exact hp
      rw [hp']
      rotate_left
      · intro i; rfl
      dsimp only
      have hc := cand Sm (hs := fun i => ((xs[i]?).map (hashT prog w)).getD 0) (h := h) (p := stand.getD (t.probeStart h)) (j := j) (i := i) (nx := next) (10 * turns t.mask) hp
      have hi : i < es.size := by rw [hlen]; exact hc.2.1
      have hei : es[i]? = some es[i] := Array.getElem?_eq_getElem hi
      obtain ⟨y, hy, hent⟩ := hE.get (i := i) (e := es[i]) (by rw [Array.getElem?_toList]; exact hei)
      obtain ⟨_, b, hb, hyk⟩ := hent
      have hst : ∀ v ∈ List.map (fun x => x.snd) (Array.filter (fun x => x.fst == h) es).toList, ∃ b y, v = .ref b ∧ IsTupleKey (intKind prog w) s.heap y b := by
        intro v hv
        obtain ⟨e', he', rfl⟩ := List.mem_map.mp hv
        rw [Array.toList_filter] at he'
        have hm := (List.mem_filter.mp he').1
        obtain ⟨k, hk⟩ := List.getElem?_of_mem hm
        obtain ⟨y', _, _, b', hb', hk'⟩ := hE.get hk
        exact ⟨b', y', hb', hk'⟩
      generalize hEi : es[i] = ei at hei hb
      obtain ⟨h1, v1⟩ := ei
      dsimp only at hb
      subst hb
      rw [hei]
      refine wp_if ?_ ?_
      · refine wpAny_bind (wp_notSeen hx hst ?_)
        simp only [Bool.false_eq_true, if_false]
        refine wpAny_bind (wpAny_holding (wpAny_eqBool_tuple hu hyk hx ?_))
        refine wpAny_bind (wpAny_setState_of ho hd hfit ?_)
        dsimp only
        by_cases hyx : y = x
        · rw [decide_eq_true hyx]
          subst hyx
          rw [hy] at e
          simp only [decide_true, if_true] at e
          injection e with e
          subst e
          simp only [Bool.and_self, if_true]
          exact wpAny_pure hQ
        · rw [decide_eq_false hyx]
          simp only [Bool.and_false, Bool.false_eq_true, if_false]
          have hsm : t.sameMemory t.moves t.mask = some true := by unfold SetTable.sameMemory; simp
          rw [hsm]
          simp only [if_true]
          rw [hc.1]
          dsimp only
          rw [hei]
          dsimp only
          refine wpAny_bind (wpAny_isSame_ref_self ?_)
          simp only [if_true]
          refine wpAny_bind (wpAny_pure ?_)
          dsimp only
          rw [hy] at e
          rw [if_neg (by simpa using hyx)] at e
          exact wp_search hu ho hd Sm hn hE hx h f (some next) r e hQ
      · refine wpAny_bind (wpAny_holding (wpAny_eqBool_tuple hu hyk hx ?_))
        refine wpAny_bind (wpAny_setState_of ho hd hfit ?_)
        dsimp only
        by_cases hyx : y = x
        · rw [decide_eq_true hyx]
          subst hyx
          rw [hy] at e
          simp only [decide_true, if_true] at e
          injection e with e
          subst e
          simp only [Bool.and_self, if_true]
          exact wpAny_pure hQ
        · rw [decide_eq_false hyx]
          simp only [Bool.and_false, Bool.false_eq_true, if_false]
          have hsm : t.sameMemory t.moves t.mask = some true := by unfold SetTable.sameMemory; simp
          rw [hsm]
          simp only [if_true]
          rw [hc.1]
          dsimp only
          rw [hei]
          dsimp only
          refine wpAny_bind (wpAny_isSame_ref_self ?_)
          simp only [if_true]
          refine wpAny_bind (wpAny_pure ?_)
          dsimp only
          rw [hy] at e
          rw [if_neg (by simpa using hyx)] at e
          exact wp_search hu ho hd Sm hn hE hx h f (some next) r e hQ

/-- a set whose tuples lie in an older heap -/
def TSetIn (prog : Program) (w : World) (h0 h : Heap) (S : Addr) (t : SetTable) (xs : List (List Int)) : Prop :=
  ∃ o es ep, h.get? S = some o ∧ o.ExactSet ∧ o.data = .set es ep t ∧ Small t xs.length ∧ EntsOf prog w h0 es.toList xs

theorem key_mono {h0 h : Heap} (hk : ∀ b o, h0.get? b = some o → h.get? b = some o) {x : List Int} {a : Addr} (k : IsTupleKey (intKind prog w) h0 x a) : IsTupleKey (intKind prog w) h x a := by
  obtain ⟨o, items, m, ho, r⟩ := k
  exact ⟨o, items, m, hk _ _ ho, r⟩

/-- adding a tuple to a small set -/
theorem wp_add {S a : Addr} {h0 : Heap} {t : SetTable} {xs : List (List Int)} {x : List Int} {Q : Bool → Shared → Prop}
    (hu : A.units < cLine) (hK : ∀ b o, h0.get? b = some o → s.heap.get? b = some o) (hS : TSetIn prog w h0 s.heap S t xs) (hn : xs.length ≤ 2) (hx0 : IsTupleKey (intKind prog w) h0 x a)
    (h : ∀ (b : Bool) (h' : Heap), Heap.SameBut S s.heap h' → TSetIn prog w h0 h' S (addT prog w (t, xs) x).1 (addT prog w (t, xs) x).2 → Q b { s with heap := h', toks := s.toks + (x.length + 1) }) :
    wpAny (model prog w) A (setAdd S (.ref a)) Q E s := by
  obtain ⟨o, es, ep, ho, hex, hd, Sm, hE0⟩ := hS
  have hx := key_mono hK hx0
  have hE : EntsOf prog w s.heap es.toList xs := hE0.imp fun y b => key_mono hK
  have hlen := hE.length
  rw [Array.length_toList] at hlen
  have hfit : t.fits es.size = true := by rw [hlen]; exact Sm.fits (by omega)
  unfold setAdd
  refine wpAny_holding ?_
  refine wpAny_bind (wpAny_pyHash_tuple hu hx ?_)
  unfold setAddHashed
  refine wpAny_holding ?_
  unfold setAddHashedIn
  refine wpAny_bind (wpAny_setState_of (s := { s with toks := s.toks + (x.length + 1) }) ho hd hfit ?_)
  dsimp only
  have hb : byScan (.ref a) es = false := rfl
  rw [hb]
  simp only [Bool.false_eq_true, if_false]
  obtain ⟨r, hr⟩ := srch_some Sm hn (fun i => ((xs[i]?).map (hashT prog w)).getD 0) (fun i => decide (xs[i]? = some x)) (hashT prog w x)
  unfold setSearch
  refine wpAny_bind (wp_search (s := { s with toks := s.toks + (x.length + 1) }) hu ho hd Sm (by omega) hE hx (hashT prog w x) 100000 none r hr ?_)
  cases r with
  | none =>
    have hadd : addT prog w (t, xs) x = (t, xs) := by
      unfold addT
      dsimp only
      rw [hr]
    dsimp only
    refine wpAny_pure (h false s.heap (Heap.SameBut.refl _ _) ?_)
    rw [hadd]
    exact ⟨o, es, ep, ho, hex, hd, Sm, hE0⟩
  | some j =>
    have hadd : addT prog w (t, xs) x = ((t.put j).1, xs.take (t.put j).2 ++ x :: xs.drop (t.put j).2) := by
      unfold addT
      dsimp only
      rw [hr]
    dsimp only
    refine wpAny_bind (wpAny_setState_of (s := { s with toks := s.toks + (x.length + 1) }) ho hd hfit ?_)
    dsimp only
    obtain ⟨Sp, hpn, hled, hmv⟩ := Sm.put j
    rw [Sp.plain]
    simp only [if_true]
    refine wpAny_bind (wp_hashByValue (s := { s with toks := s.toks + (x.length + 1) }) hx ?_)
    simp only [if_true]
    have hins : (insertAt es (t.put j).2 (hashT prog w x, Value.ref a)).toList = es.toList.take (t.put j).2 ++ (hashT prog w x, Value.ref a) :: es.toList.drop (t.put j).2 := by
      unfold insertAt
      simp
      exact List.take_of_length_le (by simp)
    have hsz : (insertAt es (t.put j).2 (hashT prog w x, Value.ref a)).size = es.size + 1 := insertAt_size _ _ _ (by rw [hlen]; exact hpn)
    have hg : (s.heap.update S (Obj.putSet (insertAt es (t.put j).2 (hashT prog w x, Value.ref a)) (t.put j).1)).get? S = some { o with data := .set (insertAt es (t.put j).2 (hashT prog w x, Value.ref a)) (ep + 1) (t.put j).1 } := by
      have := Heap.get?_update_self (Obj.putSet (insertAt es (t.put j).2 (hashT prog w x, Value.ref a)) (t.put j).1) ho (by rw [putSet_of _ _ hd]; rfl)
      rw [putSet_of _ _ hd] at this; exact this
    have hsb := Heap.SameBut.update s.heap S (Obj.putSet (insertAt es (t.put j).2 (hashT prog w x, Value.ref a)) (t.put j).1)
    refine wpAny_bind (wpAny_storeSet_of (s := { s with toks := s.toks + (x.length + 1) }) ho hd ?_ (fits_of_scanBound (by show (insertAt es (t.put j).2 (hashT prog w x, Value.ref a)).size < scanBound; rw [hsz, hlen]; unfold scanBound; omega)))
    have htf : (t.put j).1.tooFull = false := by
      unfold SetTable.tooFull
      rw [Sp.fill, Sp.mask]
      simp; omega
    rw [htf]
    simp only [Bool.and_false, Bool.false_eq_true, if_false]
    refine wpAny_pure (h true _ hsb ?_)
    rw [hadd]
    refine ⟨_, _, _, hg, hex, rfl, ?_, ?_⟩
    · have : (xs.take (t.put j).2 ++ x :: xs.drop (t.put j).2).length = xs.length + 1 := by
        simp; omega
      rw [this]; exact Sp
    · rw [hins]
      exact (hE0.take _).app ⟨⟨rfl, a, rfl, hx0⟩, hE0.drop _⟩

end
end TupSet
end PySem


set_option Elab.async false
set_option maxRecDepth 100000
set_option maxHeartbeats 4000000
set_option linter.unusedVariables false
/-! set(l) of a list of at most three tuples of ints -/
namespace PySem
namespace TupSet
open SetTable PyProof.Rows

/-- the set after the first i -/
def foldT (prog : Program) (w : World) (t0 : SetTable) (L : List (List Int)) : SetTable × List (List Int) := L.foldl (addT prog w) (t0, [])

theorem addT_len (prog : Program) (w : World) (st : SetTable × List (List Int)) (x : List Int) : (addT prog w st x).2.length ≤ st.2.length + 1 := by
  unfold addT
  split
  · simp; omega
  · omega
theorem foldT_len (prog : Program) (w : World) : ∀ (L : List (List Int)) (st : SetTable × List (List Int)), (L.foldl (addT prog w) st).2.length ≤ st.2.length + L.length
  | [], st => by simp
  | x :: L, st => by
    have h1 := foldT_len prog w L (addT prog w st x)
    have h2 := addT_len prog w st x
    simp only [List.foldl_cons, List.length_cons]
    omega
theorem foldT_take (prog : Program) (w : World) (t0 : SetTable) (L : List (List Int)) {i : Nat} {x : List Int} (h : L[i]? = some x) : foldT prog w t0 (L.take (i + 1)) = addT prog w (foldT prog w t0 (L.take i)) x := by
  unfold foldT
  rw [List.take_add_one, h]
  simp
theorem foldT_small (prog : Program) (w : World) (t0 : SetTable) (L : List (List Int)) (i : Nat) : (foldT prog w t0 (L.take i)).2.length ≤ i := by
  have := foldT_len prog w (L.take i) (t0, [])
  simp only [List.length_nil, List.length_take] at this
  unfold foldT
  omega

section
variable {prog : Program} {w : World} {A : Around} {R : Result → Shared → Prop} {I : Addr} {fp wr : List Addr} {G : Array GenState → Array GenState → Prop} {n : Nat} {P : Nat → Value → Prop} {St : Nat → Shared → Prop}


theorem loop_set (W : WalksS prog w A.in1 I fp wr G n P St) (S : Addr) (hSf : S ∉ fp) (h0 : Heap) (L : List (List Int)) (t0 : SetTable) (hnL : n = L.length) (h3 : n ≤ 3) (hu : A.in1.units < cLine)
    (hP : ∀ i v, P i v → ∃ a x, v = .ref a ∧ L[i]? = some x ∧ IsTupleKey (intKind prog w) h0 x a) (hS0 : h0.get? S = none) (hwr : ∀ b ∈ wr, h0.get? b = none) :
    ∀ (k i : Nat) (s : Shared), n - i = k → i ≤ n → St i s → (∀ b o, h0.get? b = some o → s.heap.get? b = some o) →
      TSetIn prog w h0 s.heap S (foldT prog w t0 (L.take i)).1 (foldT prog w t0 (L.take i)).2 →
      (∀ s', Moved (S :: wr) G s s' → (∀ b o, h0.get? b = some o → s'.heap.get? b = some o) → TSetIn prog w h0 s'.heap S (foldT prog w t0 L).1 (foldT prog w t0 L).2 → R (.ok (.ret .none)) s') →
      codeAny (model prog w) A (.builtin "set.update.loop" ⟨[.ref S, .ref I], []⟩) R s := by
  have hSw : S ∉ wr := fun h => hSf (W.sub _ h)
  have hsub : ∀ b ∈ wr, b ∈ S :: wr := fun b hb => List.mem_cons_of_mem _ hb
  have keepM : ∀ {s s' : Shared}, Moved wr G s s' → (∀ b o, h0.get? b = some o → s.heap.get? b = some o) → ∀ b o, h0.get? b = some o → s'.heap.get? b = some o := fun hm hK b o hb =>
    hm.heap b o (fun hw => by rw [hwr b hw] at hb; exact nomatch hb) (hK b o hb)
  have moveS : ∀ {s s' : Shared} {t xs}, Moved wr G s s' → TSetIn prog w h0 s.heap S t xs → TSetIn prog w h0 s'.heap S t xs := fun hm hS => by
    obtain ⟨o, es, ep, ho, rest⟩ := hS
    exact ⟨o, es, ep, hm.heap S _ hSw ho, rest⟩
  intro k
  induction k with
  | zero =>
    intro i s hk hi hst hK hS hR
    have hin : i = n := by omega
    subst hin
    refine codeAny_builtin PyProof.Rows.F.entry_set_update_loop ?_
    rw [Around.under_plainId PyProof.Rows.F.plain_set_update_loop _]
    show wpAny _ A.in1 (pyNext (.ref I) >>= _) _ _ s
    refine wpAny_bind (W.done s _ _ hst fun s' hm => ?_)
    show wpAny _ A.in1 (ret Value.none) _ _ s'
    have hS' := moveS hm hS
    rw [hnL, List.take_length] at hS'
    exact wpAny_pure (hR s' (hm.mono hsub) (keepM hm hK) hS')
  | succ k ih =>
    intro i s hk hi hst hK hS hR
    have hlt : i < n := by omega
    refine codeAny_builtin PyProof.Rows.F.entry_set_update_loop ?_
    rw [Around.under_plainId PyProof.Rows.F.plain_set_update_loop _]
    show wpAny _ A.in1 (pyNext (.ref I) >>= _) _ _ s
    refine wpAny_bind (W.item i s _ _ hlt hst fun v s' hPv hst' hm => ?_)
    obtain ⟨a, x, rfl, hxL, hxk⟩ := hP i v hPv
    have hS' := moveS hm hS
    have hK' := keepM hm hK
    have hsm := foldT_small prog w t0 L i
    show wpAny _ A.in1 (holding [Value.ref a] (setAdd S (.ref a)) >>= _) _ _ s'
    refine wpAny_bind (wpAny_holding ?_)
    refine wp_add hu hK' hS' (by omega) hxk fun b h' hsb hS2 => ?_
    rw [show ((foldT prog w t0 (L.take i)).1, (foldT prog w t0 (L.take i)).2) = foldT prog w t0 (L.take i) from rfl, ← foldT_take prog w t0 L hxL] at hS2
    have hK2 : ∀ b o, h0.get? b = some o → h'.get? b = some o := fun b o hb => by
      rw [hsb.2 b (fun e => by rw [e, hS0] at hb; exact nomatch hb)]; exact hK' b o hb
    refine wpAny_pure ⟨plainId_quiet PyProof.Rows.F.plain_set_update_loop _, ih (i + 1) _ (by omega) hlt (W.frame _ s' _ _ hst' (Nat.le_add_right _ _) fun b hb o e => ?_) hK2 hS2 fun s'' hm'' hK'' hS'' => ?_⟩
    · rw [hsb.2 b (fun h : b = S => hSf (by rw [← h]; exact hb))]; exact e
    · refine hR s'' (Moved.trans W.gtrans ((hm.mono hsub).then_heap (Nat.le_add_right _ _) fun b o hb e => ?_) hm'') hK'' hS''
      rw [hsb.2 b (fun h : b = S => hb (by rw [h]; exact List.mem_cons_self))]; exact e
end

section
variable {prog : Program} {w : World} {A : Around} {E : Value → Shared → Prop} {s : Shared}
theorem fresh_in (h0 h : Heap) (S : Addr) (led : Bool) (hg : h.get? S = some { cls := .type "set", dict := none, data := .set #[] 0 (.fresh 0 0 led) }) : TSetIn prog w h0 h S (.fresh 0 0 led) [] :=
  ⟨_, _, _, hg, ⟨rfl, rfl, rfl⟩, rfl, Small.fresh led, trivial⟩

def ledOf (w : World) : Bool := !(w.params.followText "set-order")

theorem code_new (a : Value) {Q₁ : Value → Shared → Prop}
    (h : Q₁ (.ref s.heap.objs.size) { s with heap := s.heap.push { cls := .type "set", dict := none, data := .set #[] 0 (.fresh 0 0 (ledOf w)) } }) :
    codeAny (model prog w) A (.call (.builtin "set.__new__") ⟨[.type "set", a], []⟩) (wants Q₁ E) s := by
  refine codeAny_of_tree ?_
  show wpAny _ A.in1 (do checkBuiltinCall "set.__new__" ⟨[.type "set", a], []⟩; again (.builtin "set.__new__" ⟨[.type "set", a], []⟩)) _ _ s
  refine wpAny_bind (wpAny_of_eq (F.newCall_set_1 a) (wpAny_pure ⟨plainId_quiet F.plain_set_new _, codeAny_builtin F.entry_set_new ?_⟩))
  rw [Around.under_plainId F.plain_set_new _]
  unfold Builtin.«set.__new__» Builtin.Frozenset.newClass
  have hsub := sub_set_self
  obtain ⟨hp, g, d, tk, os⟩ := s
  dsimp only
  wp_walk
  refine wpAny_askSetting (wpAny_pure ?_)
  dsimp only
  simp only [newObj]
  refine wpAny_bind (wpAny_alloc (wpAny_pure ?_))
  exact wpAny_pure h

/-- set(l), l a list of at most three tuples of ints -/
theorem call_set {l : Addr} {items : Array Value} {L : List (List Int)} {h0 : Heap} {Q : Value → Shared → Prop}
    (hk0 : ∀ b o, h0.get? b = some o → s.heap.get? b = some o) (hh : A.handled = none) (hu : A.units + 8 < cLine) (hl : s.heap.IsList l items) (hL : items.size = L.length) (h3 : L.length ≤ 3)
    (hi : ∀ (i : Nat) (v : Value), items[i]? = some v → ∃ a x, v = .ref a ∧ L[i]? = some x ∧ IsTupleKey (intKind prog w) h0 x a)
    (h : ∀ (h' : Heap) (tk : Nat), TSetIn prog w h0 h' s.heap.objs.size (foldT prog w (.fresh 0 0 (ledOf w)) L).1 (foldT prog w (.fresh 0 0 (ledOf w)) L).2 →
      (∀ b o, s.heap.get? b = some o → h'.get? b = some o) → Q (.ref s.heap.objs.size) { s with heap := h', toks := tk }) :
    wpAny (model prog w) A (call (.type "set") [.ref l]) Q E s := by
  have hz0 : ∀ b, s.heap.objs.size ≤ b → h0.get? b = none := fun b hb => by
    cases e : h0.get? b with
    | none => rfl
    | some o => exact absurd (Heap.lt_size (hk0 b o e)) (Nat.not_lt.mpr hb)
  obtain ⟨c, tl, hmro⟩ := F.called_set.mro
  have hmade := F.called_set.made
  have hsub := F.called_set.sub
  refine wpAny_call (codeAny_of_tree ?_)
  show wpAny _ _ (callAny (.type "set") _) _ _ _
  refine wpAny_pure ⟨Code.quiet_builtin _ (by decide +kernel), codeAny_builtin F.entry_type_call ?_⟩
  rw [Around.under_plain (weight_type_call_type "set" [.ref l] []) rfl]
  have h1 := F.called_set.notType
  have h2 := F.called_set.canCreate
  have hct := F.typeCall_set_1 (.ref l)
  repeat (any_goals (first | assumption | wp_step))
  obtain ⟨led, hled⟩ : ∃ led, ledOf w = led := ⟨_, rfl⟩
  rw [hled] at h
  refine codeAny_mono (code_new (.ref l) (E := E) (Q₁ := fun obj s₁ => obj = .ref s.heap.objs.size ∧ s₁ = { s with heap := s.heap.push { cls := .type "set", dict := none, data := .set #[] 0 (.fresh 0 0 led) } }) (by rw [hled]; exact ⟨rfl, rfl⟩)) fun r s₁ hr => ?_
  cases r with
  | error e => exact hr
  | ok fl =>
    cases fl with
    | ret obj =>
      obtain ⟨rfl, rfl⟩ := hr
      have hS : (s.heap.push { cls := .type "set", dict := none, data := .set #[] 0 (.fresh 0 0 led) }).get? s.heap.objs.size = some { cls := .type "set", dict := none, data := .set #[] 0 (.fresh 0 0 led) } := Heap.get?_push_size _ rfl
      have hT : Shared.TypeIs { s with heap := s.heap.push { cls := .type "set", dict := none, data := .set #[] 0 (.fresh 0 0 led) } } (.ref s.heap.objs.size) "set" := ⟨_, hS, rfl⟩
      have hli := F.called_set.init.lookup
      have hbi := F.called_set.init.bind (.ref s.heap.objs.size)
      repeat (any_goals (first | assumption | wp_step))
      refine codeAny_mono (codeAny_call_builtin (R := wants (fun r s₂ => r = .none ∧ ∃ h' tk, s₂ = { s with heap := h', toks := tk } ∧
          TSetIn prog w h0 h' s.heap.objs.size (foldT prog w (.fresh 0 0 led) L).1 (foldT prog w (.fresh 0 0 led) L).2 ∧
          (∀ b o, s.heap.get? b = some o → h'.get? b = some o)) E) F.called_set.init.plain F.entry_set_init (check_set_init_1 hT ?_)) fun r₂ s₂ hr₂ => ?_
      · obtain ⟨ol, hol, hcl, nl, hdl⟩ := hl
        obtain ⟨ocls, odict, odata, oslots⟩ := ol
        simp only at hcl hdl
        subst hcl; subst hdl
        have hol' : (s.heap.push { cls := .type "set", dict := none, data := .set #[] 0 (.fresh 0 0 led) }).get? l = some { cls := .type "list", dict := odict, data := .seq items nl, slots := oslots } := Heap.get?_push_of_some _ hol
        have hsls := F.sub_list_set
        have hslf := F.sub_list_frozenset
        have hne : (Value.type "list" == Value.type "dict") = false := by decide
        have hl1 : (s.heap.push { cls := .type "set", dict := none, data := .set #[] 0 (.fresh 0 0 led) }).IsList l items := ⟨_, hol', rfl, nl, rfl⟩
        unfold Builtin.«set.__init__» noKeywords Builtin.Frozenset.updateFrom
        generalize hPI : pyIter = PI
        wp_walk
        subst hPI
        refine wpAny_pyIter_list hl1 ?_
        refine wpAny_bind (wpAny_runValue ?_)
        have hlS : l < s.heap.objs.size := Heap.lt_size hol
        have hh3 : A.in1.in1.in1.handled = none := by simp [hh]
        have hsz1 : (s.heap.push { cls := .type "set", dict := none, data := .set #[] 0 (.fresh 0 0 led) }).objs.size = s.heap.objs.size + 1 := Heap.size_push _ _
        have hneI : l ≠ (s.heap.push { cls := .type "set", dict := none, data := .set #[] 0 (.fresh 0 0 led) }).objs.size := by rw [hsz1]; exact Nat.ne_of_lt (Nat.lt_succ_of_lt hlS)
        have hSf : s.heap.objs.size ∉ [(s.heap.push { cls := .type "set", dict := none, data := .set #[] 0 (.fresh 0 0 led) }).objs.size, l] := by
          rw [hsz1]
          intro hm
          rcases List.mem_cons.mp hm with e | e
          · exact absurd e (Nat.ne_of_lt (Nat.lt_succ_self _))
          · exact absurd (List.mem_singleton.mp e) (Nat.ne_of_gt hlS)
        have keep2 : ∀ b o, s.heap.get? b = some o → ((s.heap.push { cls := .type "set", dict := none, data := .set #[] 0 (.fresh 0 0 led) }).push { cls := .type "list_iterator", data := .fields #[.ref l, .int 0 0] }).get? b = some o := fun b o e =>
          Heap.get?_push_of_some _ (Heap.get?_push_of_some _ e)
        refine loop_set ((Walks.list hh3 _ l hneI items).toS) s.heap.objs.size hSf h0 L (.fresh 0 0 led) hL (by rw [hL]; exact h3) ?hun hi (hz0 _ (Nat.le_refl _)) ?hwr
          (items.size - 0) 0 _ (by omega) (Nat.zero_le _) ⟨⟨_, Heap.get?_push_size _ rfl, rfl, rfl⟩, (hl1.push _)⟩ (fun b o e => keep2 b o (hk0 b o e)) ?hS0 ?hR
        case hun => show A.units + 1 + 1 + 1 < cLine; omega
        case hwr =>
          intro b hb
          rw [List.mem_singleton.mp hb, hsz1]
          exact hz0 _ (Nat.le_succ _)
        case hS0 =>
          exact fresh_in _ _ _ _ (Heap.get?_push_of_some _ hS)
        case hR =>
          intro s' hm hK hS'
          obtain ⟨h', g', d', tk', os'⟩ := s'
          have eg : g' = s.gens := hm.gens
          have ed : d' = s.drawn := hm.drawn
          have eo : os' = s.os := hm.os
          subst eg; subst ed; subst eo
          show wpAny _ _ _ _ _ _
          refine wpAny_pure ?_
          show wpAny _ _ (ret Value.none) _ _ _
          exact wpAny_pure ⟨rfl, h', tk', rfl, hS', fun b o e => hm.heap b o (fun hb => by
            rcases List.mem_cons.mp hb with z | z
            · rw [z] at e; exact absurd (Heap.lt_size e) (Nat.lt_irrefl _)
            · rw [List.mem_singleton.mp z, hsz1] at e; exact absurd (Heap.lt_size e) (Nat.not_lt.mpr (Nat.le_succ _))) (keep2 b o e)⟩
      · cases r₂ with
        | error e => exact hr₂
        | ok fl₂ =>
          cases fl₂ with
          | ret r =>
            obtain ⟨rfl, h', tk, rfl, hS', hk'⟩ := hr₂
            repeat (any_goals (first | assumption | wp_step))
            exact h _ _ hS' hk'
          | _ => exact hr₂.elim
    | _ => exact hr.elim
end
end TupSet
end PySem


set_option Elab.async false
set_option maxRecDepth 100000
set_option maxHeartbeats 4000000
set_option linter.unusedVariables false
/-! the places of a small table rise; the order in which a set is walked -/
namespace PySem
namespace TupSet
open SetTable PyProof.Rows

def Rise (t : SetTable) : Prop := t.place.toList.Pairwise (· < ·)

theorem below1 (a j : Nat) : below #[a] j = if a < j then 1 else 0 := by
  simp only [below, List.size_toArray, List.length_cons, List.length_nil, below.go]
  simp
theorem below2 (a b j : Nat) : below #[a, b] j = if b < j then 2 else if a < j then 1 else 0 := by
  simp only [below, List.size_toArray, List.length_cons, List.length_nil, below.go]
  simp
theorem below3 (a b c j : Nat) : below #[a, b, c] j = if b < j then (if c < j then 3 else 2) else if a < j then 1 else 0 := by
  simp only [below, List.size_toArray, List.length_cons, List.length_nil, below.go]
  simp

theorem arr_cases {xs : Array Nat} (h : xs.size ≤ 3) : xs = #[] ∨ (∃ a, xs = #[a]) ∨ (∃ a b, xs = #[a, b]) ∨ (∃ a b c, xs = #[a, b, c]) := by
  obtain ⟨l⟩ := xs
  match l, h with
  | [], _ => exact .inl rfl
  | [a], _ => exact .inr (.inl ⟨a, rfl⟩)
  | [a, b], _ => exact .inr (.inr (.inl ⟨a, b, rfl⟩))
  | [a, b, c], _ => exact .inr (.inr (.inr ⟨a, b, c, rfl⟩))
  | _ :: _ :: _ :: _ :: _, h => simp at h

theorem below_zero {xs : Array Nat} (h : xs.size ≤ 3) : below xs 0 = 0 := by
  rcases arr_cases h with rfl | ⟨a, rfl⟩ | ⟨a, b, rfl⟩ | ⟨a, b, c, rfl⟩
  · rfl
  · rw [below1]; simp
  · rw [below2]; simp
  · rw [below3]; simp

theorem below_next {xs : Array Nat} (h : xs.size ≤ 3) (hr : xs.toList.Pairwise (· < ·)) {i v : Nat} (hi : xs[i]? = some v) : below xs (v + 1) = i + 1 := by
  rcases arr_cases h with rfl | ⟨a, rfl⟩ | ⟨a, b, rfl⟩ | ⟨a, b, c, rfl⟩
  · simp at hi
  · match i, hi with
    | 0, hi => simp at hi; subst hi; rw [below1]; simp
    | i + 1, hi => simp at hi
  · simp at hr
    match i, hi with
    | 0, hi => simp at hi; subst hi; rw [below2, if_neg (by omega), if_pos (by omega)]
    | 1, hi => simp at hi; subst hi; rw [below2, if_pos (by omega)]
    | i + 2, hi => simp at hi
  · simp at hr
    match i, hi with
    | 0, hi => simp at hi; subst hi; rw [below3, if_neg (by omega), if_pos (by omega)]
    | 1, hi => simp at hi; subst hi; rw [below3, if_pos (by omega), if_neg (by omega)]
    | 2, hi => simp at hi; subst hi; rw [below3, if_pos (by omega), if_pos (by omega)]
    | i + 3, hi => simp at hi

theorem rise_put {t : SetTable} {n j : Nat} (S : Small t n) (hn : n ≤ 2) (R : Rise t) (he : t.slot j = .empty) : Rise (t.put j).1 := by
  have hb : t.place[below t.place j]? ≠ some j := by
    intro e
    unfold SetTable.slot at he
    dsimp only at he
    rw [if_pos (by rw [e]; simp)] at he
    exact nomatch he
  show (insertAt t.place (below t.place j) j).toList.Pairwise (· < ·)
  have hsz : t.place.size ≤ 3 := by rw [S.size]; omega
  have R' : t.place.toList.Pairwise (· < ·) := R
  revert hb R'
  generalize hp : t.place = xs at hsz
  intro hb R'
  rcases arr_cases hsz with rfl | ⟨a, rfl⟩ | ⟨a, b, rfl⟩ | ⟨a, b, c, rfl⟩
  · simp [insertAt, show ∀ j, below #[] j = 0 from fun _ => rfl]
  · rw [below1] at hb ⊢
    by_cases h1 : a < j
    · rw [if_pos h1]; simp [insertAt]; exact h1
    · rw [if_neg h1] at hb ⊢
      simp at hb
      simp [insertAt]; omega
  · rw [below2] at hb ⊢
    simp at R'
    by_cases h1 : b < j
    · rw [if_pos h1]; simp [insertAt]; omega
    · rw [if_neg h1] at hb ⊢
      by_cases h2 : a < j
      · rw [if_pos h2] at hb ⊢
        simp at hb
        simp [insertAt]; omega
      · rw [if_neg h2] at hb ⊢
        simp at hb
        simp [insertAt]; omega
  · have := S.size
    rw [hp] at this
    simp at this
    omega

theorem go_empty {t : SetTable} {hs : Nat → Int} {h : Int} {j : Nat} {d : Option Nat} : ∀ (f : Nat) (p : Probe), probe.go t hs h f p = some (.empty j d) → t.slot j = .empty
  | 0, _, e => nomatch e
  | f + 1, p, e => by
    unfold probe.go at e
    match hs' : t.slot p.j with
    | .empty =>
      rw [hs'] at e
      injection e with e
      injection e with e1 _
      rw [← e1]; exact hs'
    | .dummy => rw [hs'] at e; exact go_empty f _ e
    | .live i =>
      rw [hs'] at e
      dsimp only at e
      split at e
      · exact nomatch e
      · exact go_empty f _ e
theorem srch_free {t : SetTable} {hs : Nat → Int} {eq : Nat → Bool} {h : Int} {j : Nat} : ∀ (f : Nat) (p : Probe), srch t hs eq h f p = some (some j) → t.slot j = .empty
  | 0, _, e => nomatch e
  | f + 1, p, e => by
    unfold srch at e
    match hp : t.probe hs h p with
    | none => rw [hp] at e; exact nomatch e
    | some (.empty j' (some d)) => rw [hp] at e; exact nomatch e
    | some (.empty j' none) =>
      rw [hp] at e
      injection e with e
      injection e with e
      subst e
      exact go_empty _ _ hp
    | some (.candidate j' i nx) =>
      rw [hp] at e
      dsimp only at e
      split at e
      · exact nomatch e
      · exact srch_free f nx e

section
variable (prog : Program) (w : World)
theorem addT_ok {st : SetTable × List (List Int)} (S : Small st.1 st.2.length) (R : Rise st.1) (hn : st.2.length ≤ 2) (x : List Int) :
    Small (addT prog w st x).1 (addT prog w st x).2.length ∧ Rise (addT prog w st x).1 ∧ (addT prog w st x).1.led = st.1.led := by
  obtain ⟨r, hr⟩ := srch_some S hn (fun i => ((st.2[i]?).map (hashT prog w)).getD 0) (fun i => decide (st.2[i]? = some x)) (hashT prog w x)
  cases r with
  | none =>
    have hadd : addT prog w st x = st := by unfold addT; rw [hr]
    rw [hadd]; exact ⟨S, R, rfl⟩
  | some j =>
    have hadd : addT prog w st x = ((st.1.put j).1, st.2.take (st.1.put j).2 ++ x :: st.2.drop (st.1.put j).2) := by unfold addT; rw [hr]
    rw [hadd]
    obtain ⟨Sp, hpn, hled, _⟩ := S.put j
    refine ⟨?_, rise_put S hn R (srch_free _ _ hr), hled⟩
    have : (st.2.take (st.1.put j).2 ++ x :: st.2.drop (st.1.put j).2).length = st.2.length + 1 := by
      simp; omega
    dsimp only
    rw [this]; exact Sp
theorem foldl_ok : ∀ (L : List (List Int)) (st : SetTable × List (List Int)), Small st.1 st.2.length → Rise st.1 → st.2.length + L.length ≤ 3 →
    Small (L.foldl (addT prog w) st).1 (L.foldl (addT prog w) st).2.length ∧ Rise (L.foldl (addT prog w) st).1 ∧ (L.foldl (addT prog w) st).1.led = st.1.led
  | [], st, S, R, _ => ⟨S, R, rfl⟩
  | x :: L, st, S, R, hn => by
    simp only [List.length_cons] at hn
    obtain ⟨S', R', hl⟩ := addT_ok prog w S R (by omega) x
    have h2 := addT_len prog w st x
    obtain ⟨a, b, c⟩ := foldl_ok L (addT prog w st x) S' R' (by omega)
    exact ⟨a, b, c.trans hl⟩
theorem foldT_ok (L : List (List Int)) (led : Bool) (h3 : L.length ≤ 3) : Rise (foldT prog w (.fresh 0 0 led) L).1 ∧ (foldT prog w (.fresh 0 0 led) L).1.led = led ∧ (foldT prog w (.fresh 0 0 led) L).2.length ≤ 3 := by
  obtain ⟨_, b, c⟩ := foldl_ok prog w L (.fresh 0 0 led, []) (Small.fresh led) (show (#[] : Array Nat).toList.Pairwise (· < ·) from List.Pairwise.nil) (by simpa using h3)
  refine ⟨b, c, ?_⟩
  have := foldT_len prog w L (.fresh 0 0 led, [])
  simp at this
  unfold foldT; omega
end

theorem pick_go {α : Type} (next : Nat → Nat) : ∀ (f k : Nat) (left : List α) (out : Array α), left.length ≤ f → (pickOrder.go next f k left out).toList.Perm (out.toList ++ left)
  | 0, k, left, out, h => by
    have : left = [] := List.eq_nil_of_length_eq_zero (by omega)
    subst this
    unfold pickOrder.go
    simp
  | f + 1, k, left, out, h => by
    unfold pickOrder.go
    match hl : left[next k % left.length]? with
    | none =>
      have : left = [] := by
        cases left with
        | nil => rfl
        | cons a l =>
          rw [List.getElem?_eq_none_iff] at hl
          exact absurd (Nat.mod_lt (next k) (show 0 < (a :: l).length by simp)) (by omega)
      subst this
      simp
    | some x =>
      dsimp only
      obtain ⟨hlt, hx⟩ := List.getElem?_eq_some_iff.mp hl
      have hlen : (left.eraseIdx (next k % left.length)).length ≤ f := by
        rw [List.length_eraseIdx_of_lt hlt]; omega
      refine (pick_go next f (k + 1) _ _ hlen).trans ?_
      rw [Array.toList_push, List.append_assoc]
      refine List.Perm.append_left _ ?_
      have e : left = left.take (next k % left.length) ++ x :: left.drop (next k % left.length + 1) := by
        rw [← hx, ← List.drop_eq_getElem_cons hlt, List.take_append_drop]
      rw [List.eraseIdx_eq_take_drop_succ]
      exact ((List.perm_middle (l₁ := left.take (next k % left.length))).symm.trans (List.Perm.of_eq e.symm))
theorem pick_perm {α : Type} (next : Nat → Nat) (xs : Array α) : (pickOrder next xs).toList.Perm xs.toList := by
  have := pick_go next xs.size 0 xs.toList #[] (by simp)
  simpa [pickOrder] using this
end TupSet
end PySem


set_option Elab.async false
set_option maxRecDepth 100000
set_option maxHeartbeats 4000000
set_option linter.unusedVariables false
/-! a set's iterator, over a small set -/
namespace PySem
namespace TupSet
open SetTable PyProof.Rows

theorem slot_si_next : Slot "set_iterator" "__next__" "set_iterator.__next__" :=
  .of (owner := "set_iterator") (n := "__next__") (by rw [typeLookup_type, builtinLookup_eq_fast]; kernel_rfl) (by decide +kernel) (by decide +kernel) (by decide +kernel)
    (by first | exact .inl (by decide +kernel) | exact .inr (by decide +kernel)) (by rw [isSubtype_type]; kernel_rfl)
theorem entry_si_next : entryFor table "set_iterator.__next__" = some Builtin.«set_iterator.__next__» := entryFor_of_tree (by kernel_rfl)
theorem args_si_next (a : Value) : argsOk "set_iterator.__next__" ⟨[a], []⟩ := by
  unfold argsOk
  rw [signature?_of (id := "set_iterator.__next__") (n := ['_', '_', 't', 'x', 'e', 'n', '_', '_']) (o := ['r', 'o', 't', 'a', 'r', 'e', 't', 'i', '_', 't', 'e', 's']) (rows := Manifest.sig_set_iterator) (by kernel_rfl) (by kernel_rfl)]
  kernel_rfl
theorem entry_s_iter : entryFor table "set.__iter__" = some Builtin.«frozenset.__iter__» :=
  entryFor_alias (id' := "frozenset.__iter__") (by kernel_rfl) rfl (by decide +kernel) (by kernel_rfl)

/-- the order in which the world walks a small set -/
def walkV (w : World) (S : Addr) (ep : Nat) (es : Array (Int × Value)) : List Value :=
  if w.params.followText "set-order" then (pickOrder (w.params.setOrder S ep) es).toList.map (·.2) else es.toList.map (·.2)

theorem walkV_perm (w : World) (S : Addr) (ep : Nat) (es : Array (Int × Value)) : (walkV w S ep es).Perm (es.toList.map (·.2)) := by
  unfold walkV
  split
  · exact (pick_perm _ _).map _
  · exact List.Perm.refl _
theorem walkV_len (w : World) (S : Addr) (ep : Nat) (es : Array (Int × Value)) : (walkV w S ep es).length = es.size := by
  rw [(walkV_perm w S ep es).length_eq]; simp

/-- a set's iterator, i given -/
def IsSetIter (w : World) (h : Heap) (I S : Addr) (i : Nat) (n ep : Nat) (t : SetTable) : Prop :=
  ∃ (slot : Nat) (o : Obj), h.get? I = some o ∧ o.cls = .type "set_iterator" ∧ o.data = .fields #[.int slot 0, .int i 0, .ref S, .int n 0, .int ep 0] ∧ (w.params.followText "set-order" = false → below t.place slot = i)

section
variable {prog : Program} {w : World} {A : Around} {E : Value → Shared → Prop} {s : Shared}
theorem wp_ifn {α : Type} {M : Model} {c : Bool} {m m' : Sem α} {Q : α → Shared → Prop} (hc : c = false) (h : wpAny M A m' Q E s) : wpAny M A (if c = true then m else m') Q E s := by
  subst hc; exact h

theorem wp_setNext {S : Addr} {o : Obj} {es : Array (Int × Value)} {ep slot i : Nat} {t : SetTable} {Q : Option (Value × Nat) → Shared → Prop}
    (ho : s.heap.get? S = some o) (hd : o.data = .set es ep t) (Sm : Small t es.size) (hn : es.size ≤ 3) (R : Rise t) (hled : w.params.followText "set-order" = false → t.led = true)
    (hsl : w.params.followText "set-order" = false → below t.place slot = i)
    (h : ∀ nx, (w.params.followText "set-order" = false → i < es.size → below t.place nx = i + 1) → Q (((walkV w S ep es)[i]?).map fun v => (v, nx)) s) :
    wpAny (model prog w) A (setNext S slot i ep) Q E s := by
  have hfit : t.fits es.size = true := Sm.fits hn
  unfold setNext
  refine wpAny_bind (wpAny_setState_of ho hd hfit ?_)
  dsimp only
  unfold setsByText
  refine wpAny_bind (wpAny_bind (wpAny_askSetting (wpAny_pure ?_)))
  cases hf : w.params.followText "set-order" with
  | true =>
    rw [show ((model prog w).w.params.followText "set-order") = true from hf]
    simp only [if_true]
    rw [if_neg (by simp)]
    unfold setWalk
    refine wpAny_bind (wpAny_bind (wpAny_setState_of ho hd hfit ?_))
    dsimp only
    unfold setsByText
    refine wpAny_bind (wpAny_bind (wpAny_askSetting (wpAny_pure ?_)))
    rw [show ((model prog w).w.params.followText "set-order") = true from hf]
    simp only [if_true]
    refine wpAny_bind (wpAny_askSetting (wpAny_pure (wpAny_pure ?_)))
    have := h slot (fun e => by rw [hf] at e; exact nomatch e)
    have hw : walkV w S ep es = (pickOrder (w.params.setOrder S ep) es).toList.map (·.2) := by unfold walkV; rw [if_pos hf]
    rw [hw, List.getElem?_map, Array.getElem?_toList, Option.map_map] at this
    exact this
  | false =>
    rw [show ((model prog w).w.params.followText "set-order") = false from hf]
    simp only [Bool.false_eq_true, if_false]
    refine wp_ifn (show (!t.plain && decide (es.size > 1)) = false by rw [Sm.plain]; rfl) ?_
    refine wpAny_bind ?_
    show wpAny _ _ (ite ((!t.led && !es.isEmpty) = true) _ _) _ _ _
    refine wp_ifn (by rw [hled hf]; rfl) (wpAny_pure ?_)
    rw [hsl hf]
    have hw : walkV w S ep es = es.toList.map (·.2) := by unfold walkV; rw [hf]; rfl
    by_cases hi : i < es.size
    · have hpl : i < t.place.size := by rw [Sm.size]; exact hi
      rw [Array.getElem?_eq_getElem hi, Array.getElem?_eq_getElem hpl]
      have := h (t.place[i] + 1) (fun _ _ => below_next (by rw [Sm.size]; exact hn) R (Array.getElem?_eq_getElem hpl))
      rw [hw, List.getElem?_map, Array.getElem?_toList, Array.getElem?_eq_getElem hi] at this
      exact wpAny_pure this
    · have := h 0 (fun _ h' => absurd h' hi)
      rw [hw, List.getElem?_map, Array.getElem?_toList, Array.getElem?_eq_none_iff.mpr (by omega)] at this
      rw [Array.getElem?_eq_none_iff.mpr (by omega)]
      exact wpAny_pure this

theorem IsSetIter.typeIs {I S : Addr} {i n ep : Nat} {t : SetTable} (x : IsSetIter w s.heap I S i n ep t) : s.TypeIs (.ref I) "set_iterator" :=
  let ⟨_, o, ho, hc, _⟩ := x; ⟨o, ho, hc⟩

/-- the set object that is walked -/
structure SetObj (w : World) (o : Obj) (es : Array (Int × Value)) (ep : Nat) (t : SetTable) : Prop where
  ex : o.ExactSet
  data : o.data = .set es ep t
  small : Small t es.size
  n3 : es.size ≤ 3
  rise : Rise t
  led : w.params.followText "set-order" = false → t.led = true

theorem wp_next_item {I S : Addr} {o : Obj} {es : Array (Int × Value)} {ep i : Nat} {t : SetTable} {v : Value} {Q : Option Value → Shared → Prop}
    (hit : IsSetIter w s.heap I S i es.size ep t) (ho : s.heap.get? S = some o) (D : SetObj w o es ep t) (hv : (walkV w S ep es)[i]? = some v)
    (hQ : ∀ h', IsSetIter w h' I S (i + 1) es.size ep t → Heap.SameBut I s.heap h' → Q (some v) { s with heap := h' }) :
    wpAny (model prog w) A (pyNext (.ref I)) Q E s := by
  have hT := hit.typeIs
  obtain ⟨slot, oi, hoi, hc, hdi, hsl⟩ := hit
  have hi : i < es.size := by
    rw [← walkV_len w S ep es]
    exact (List.getElem?_eq_some_iff.mp hv).1
  unfold pyNext
  refine wpAny_bind (wpAny_attempt (wpAny_callSpecial?_slot (name := Str.ofString "__next__") hT slot_si_next
    (wpAny_call_entry slot_si_next hT entry_si_next ?_ (args_si_next _))))
  show wpAny _ _ (fieldsOf (.ref I) >>= _) _ _ s
  refine wpAny_bind (wpAny_fieldsOf hoi hdi ?_)
  dsimp only
  refine wpAny_bind (wpAny_setEntries_of ho D.data (D.small.fits D.n3) ?_)
  refine wp_ifn (by simp) ?_
  refine wpAny_bind (wp_setNext (i := i) (slot := slot) ho D.data D.small D.n3 D.rise D.led hsl fun nx hnx => ?_)
  rw [show ((ep : Int)).toNat = ep from Int.toNat_natCast ep, hv]
  dsimp only [Option.map]
  refine wpAny_bind (wpAny_setField hoi hdi (by simp) ?_)
  have ho1 := Heap.get?_update_self (Obj.mapFields fun xs => xs.setIfInBounds 0 (rawInt nx)) hoi (Obj.isFreed_of_fields (Obj.data_mapFields hdi _))
  refine wpAny_bind (wpAny_setField ho1 (Obj.data_mapFields hdi _) (by simp) (wpAny_pure ⟨v, rfl, wpAny_pure (hQ _ ?_ ((Heap.SameBut.update ..).trans (Heap.SameBut.update ..)))⟩))
  refine ⟨nx, _, Heap.get?_update_self _ ho1 (Obj.isFreed_of_fields (Obj.data_mapFields (Obj.data_mapFields hdi _) _)), (Obj.cls_mapFields ..).trans ((Obj.cls_mapFields ..).trans hc), ?_, fun hf => hnx hf hi⟩
  rw [Obj.data_mapFields (Obj.data_mapFields hdi _)]
  simp [rawInt]

theorem wp_next_end {I S : Addr} {o : Obj} {es : Array (Int × Value)} {ep : Nat} {t : SetTable} {Q : Option Value → Shared → Prop} (hh : A.handled = none)
    (hit : IsSetIter w s.heap I S es.size es.size ep t) (ho : s.heap.get? S = some o) (D : SetObj w o es ep t)
    (hQ : ∀ h', Heap.ExtBut I s.heap h' → Q none { s with heap := h' }) :
    wpAny (model prog w) A (pyNext (.ref I)) Q E s := by
  have hT := hit.typeIs
  obtain ⟨slot, oi, hoi, hc, hdi, hsl⟩ := hit
  unfold pyNext
  refine wpAny_bind (wpAny_attempt (wpAny_callSpecial?_slot (name := Str.ofString "__next__") hT slot_si_next
    (wpAny_call_entry slot_si_next hT entry_si_next ?_ (args_si_next _))))
  show wpAny _ _ (fieldsOf (.ref I) >>= _) _ _ s
  refine wpAny_bind (wpAny_fieldsOf hoi hdi ?_)
  dsimp only
  refine wpAny_bind (wpAny_setEntries_of ho D.data (D.small.fits D.n3) ?_)
  refine wp_ifn (by simp) ?_
  refine wpAny_bind (wp_setNext (i := es.size) (slot := slot) ho D.data D.small D.n3 D.rise D.led hsl fun nx hnx => ?_)
  rw [List.getElem?_eq_none_iff.mpr (by rw [walkV_len]; exact Nat.le_refl _)]
  dsimp only [Option.map]
  refine wpAny_bind (wpAny_setField hoi hdi (by simp) ?_)
  refine wpAny_bind ?_
  simp only [newExc, newTuple]
  refine wpAny_bind (wpAny_newObj_type ?_ (by size_fits))
  refine wpAny_bind (m := firstArgMember _ _) (wpAny_of_eq (a := Value.none) (by first | rfl | (simp only [firstArgMember]; rfl)) ?_)
  refine wpAny_newObj_type ?_ (by size_fits)
  simp only [raiseNew]
  refine wpAny_bind (wpAny_handled ?_)
  first | rw [show A.in1.handled = none from hh] | rw [hh]
  refine wpAny_bind (wpAny_pure (wpAny_throw ?_))
  refine wpAny_bind (wpAny_isInstance (T := "StopIteration") (b := true) ⟨_, Heap.get?_push_size _ rfl, rfl⟩ isSubtype_stop ?_)
  exact wpAny_pure (hQ _ (((Heap.SameBut.update ..).extBut.push _).push _))

theorem wp_iter {S : Addr} {o : Obj} {es : Array (Int × Value)} {ep : Nat} {t : SetTable} {Q : Value → Shared → Prop} (ho : s.heap.get? S = some o) (D : SetObj w o es ep t)
    (hQ : Q (.ref s.heap.objs.size) { s with heap := s.heap.push { cls := .type "set_iterator", data := .fields #[.int 0 0, .int 0 0, .ref S, .int es.size 0, .int ep 0] } }) :
    wpAny (model prog w) A (pyIter (.ref S)) Q E s := by
  have hT : s.TypeIs (.ref S) "set" := ⟨o, ho, D.ex.1⟩
  have hfit := D.small.fits D.n3
  refine wpAny_pyIter_slot hT F.slot_set_iter (wpAny_call_entry F.slot_set_iter hT entry_s_iter ?_ (F.args_set_iter_1 _))
  show wpAny _ _ (Builtin.Frozenset.sizeOf S >>= _) _ _ s
  unfold Builtin.Frozenset.sizeOf
  refine wpAny_bind (wpAny_bind (wpAny_setEntries_of ho D.data hfit (wpAny_pure ?_)))
  unfold setDrawn
  refine wpAny_bind (wpAny_bind (wpAny_setState_of ho D.data hfit ?_))
  dsimp only
  unfold setsByText
  refine wpAny_bind (wpAny_bind (wpAny_askSetting (wpAny_pure (wpAny_pure ?_))))
  refine wp_ifn (show (!(w.params.followText "set-order") && (!t.plain && decide (es.size > 1))) = false by rw [D.small.plain]; simp) ?_
  refine wpAny_bind (wpAny_pure ?_)
  refine wpAny_bind (wpAny_setEpoch_of ho D.data hfit ?_)
  refine wpAny_bind (wpAny_newObj_type (wpAny_pure ⟨_, rfl, "set_iterator", _, ⟨_, Heap.get?_push_size _ rfl, rfl⟩, slot_si_next.lookup, hQ⟩))
end
end TupSet
end PySem


set_option Elab.async false
set_option maxRecDepth 100000
set_option maxHeartbeats 4000000
set_option linter.unusedVariables false
/-! collecting a small set into a list -/
namespace PySem
namespace TupSet
open SetTable PyProof.Rows PySem.W

theorem slot_si_iter : Slot "set_iterator" "__iter__" "set_iterator.__iter__" :=
  .of (owner := "set_iterator") (n := "__iter__") (by rw [typeLookup_type, builtinLookup_eq_fast]; kernel_rfl) (by decide +kernel) (by decide +kernel) (by decide +kernel)
    (by first | exact .inl (by decide +kernel) | exact .inr (by decide +kernel)) (by rw [isSubtype_type]; kernel_rfl)
theorem args_si_iter (a : Value) : argsOk "set_iterator.__iter__" ⟨[a], []⟩ := by
  unfold argsOk
  rw [signature?_of (id := "set_iterator.__iter__") (n := ['_', '_', 'r', 'e', 't', 'i', '_', '_']) (o := ['r', 'o', 't', 'a', 'r', 'e', 't', 'i', '_', 't', 'e', 's']) (rows := Manifest.sig_set_iterator) (by kernel_rfl) (by kernel_rfl)]
  kernel_rfl

theorem entry_si_iter : entryFor table "set_iterator.__iter__" = some Builtin.«dict_keyiterator.__iter__» :=
  entryFor_alias (id' := "dict_keyiterator.__iter__") (by kernel_rfl) rfl (by decide +kernel) (by kernel_rfl)

section
variable {prog : Program} {w : World} {A : Around} {E : Value → Shared → Prop} {s : Shared}

theorem hint_set {r : Addr} {Q : Bool → Shared → Prop} (hT : s.TypeIs (.ref r) "set") (h : Q false s) : wpAny (model prog w) A (Builtin.List.listLengthHint (.ref r)) Q E s := by
  unfold Builtin.List.listLengthHint
  refine wpAny_bind (wpAny_specialOf hT PySem.F.slot_set_len.lookup ?_)
  generalize hid : ("set.__len__" : String) = id0
  wp_delta
  rw [show splitId id0 = some ("set", "__len__") from by subst hid; decide +kernel]
  subst hid
  refine wpAny_bind (wpAny_isInstance (T := "set") (b := true) hT (by rw [isSubtype_type]; kernel_rfl) ?_)
  refine wpAny_ite_split (fun hab => absurd hab (by decide)) (fun _ => ?_)
  refine wpAny_ite_split (fun _ => ?_) (fun hab => absurd (by decide +kernel) hab)
  refine wpAny_bind (wpAny_typeOf hT ?_)
  exact wpAny_pure h

theorem walks_set (hh : A.handled = none) {I S : Addr} (hne : S ≠ I) {o : Obj} {es : Array (Int × Value)} {ep : Nat} {t : SetTable} (D : SetObj w o es ep t) :
    Walks prog w A I [I, S] [I] es.size (fun i v => (walkV w S ep es)[i]? = some v) (fun i h => IsSetIter w h I S i es.size ep t ∧ h.get? S = some o) where
  sub := fun b hb => by simp at hb; simp [hb]
  frame := fun i h h' st hk => by
    obtain ⟨⟨slot, oi, hoi, r⟩, hS⟩ := st
    exact ⟨⟨slot, oi, hk I (by simp) _ hoi, r⟩, hk S (by simp) _ hS⟩
  item := fun i s Q E hi st hQ => by
    have hl := walkV_len w S ep es
    have hv : (walkV w S ep es)[i]? = some ((walkV w S ep es)[i]'(by omega)) := List.getElem?_eq_getElem _
    refine wp_next_item st.1 st.2 D hv fun h' hit' hs' => ?_
    exact hQ _ h' s.toks hv ⟨hit', by rw [hs'.2 S hne]; exact st.2⟩ fun b o hb e => hs'.extBut b o (fun h => hb (by simp [h])) e
  done := fun s Q E st hQ => wp_next_end hh st.1 st.2 D fun h' he' => hQ h' s.toks fun b o hb e => he' b o (fun h => hb (by simp [h])) e
  self := fun i s Q E st hQ => by
    have hT := st.1.typeIs
    refine wpAny_pyIter_slot hT slot_si_iter (wpAny_call_entry slot_si_iter hT entry_si_iter ?_ (args_si_iter _))
    show wpAny _ _ (ret (.ref I)) _ _ s
    exact wpAny_pure ⟨_, rfl, "set_iterator", _, hT, slot_si_next.lookup, hQ⟩

theorem src_set {S : Addr} {o : Obj} {es : Array (Int × Value)} {ep : Nat} {t : SetTable} (D : SetObj w o es ep t) :
    KdlSrc prog w "set" S S es.size (fun i v => (walkV w S ep es)[i]? = some v) (fun h => h.get? S = some o) where
  type := fun s ho => ⟨o, ho, D.ex.1⟩
  there := fun h ho => ⟨Heap.lt_size ho, Heap.lt_size ho⟩
  keep := fun h h' ho hk => hk S (.inl rfl) _ ho
  notList := by decide
  notTuple := by decide
  hint := fun A E s Q ho h => hint_set ⟨o, ho, D.ex.1⟩ h
  iter := fun A s hh ho => ⟨_, _, fun E Q h => wp_iter ho D h, walks_set hh (Nat.ne_of_lt (Heap.lt_size ho)) D,
    ⟨0, _, Heap.get?_push_size _ rfl, rfl, rfl, fun _ => below_zero (by rw [D.small.size]; exact D.n3)⟩, Heap.get?_push_of_some _ ho⟩

/-- collecting a small set -/
theorem wp_collect {S : Addr} {o : Obj} {es : Array (Int × Value)} {ep : Nat} {t : SetTable} {Q : List Value → Shared → Prop} (hh : A.handled = none) (ho : s.heap.get? S = some o) (D : SetObj w o es ep t)
    (h : ∀ h' tk, (∀ b o, s.heap.get? b = some o → h'.get? b = some o) → Q (walkV w S ep es) { s with heap := h', toks := tk }) :
    wpAny (model prog w) A (collect (.ref S)) Q E s := by
  unfold collect
  refine wpAny_bind (wpAny_runValue (codeAny_builtin entry_proto_collect' ?_))
  show wpAny _ _ (do again (.builtin "list.__iadd__" ⟨[← newList [], .ref S], []⟩)) _ _ s
  refine wpAny_bind (wpAny_newList (wpAny_pure ⟨Code.quiet_builtin _ (by decide +kernel), codeAny_builtin entry_list_iadd' ?_⟩))
  rw [Around.under_plainId PySem.F.plain_list_iadd _]
  show wpAny _ A.in1 (Builtin.List.listExtendWith (.ref s.heap.objs.size) (.ref S) (.ref s.heap.objs.size)) _ _ _
  have hlt := Heap.lt_size ho
  refine kdl_extend (prog := prog) (R := fun r s' => match r with
    | .ok (.ret v) => wpAny (model prog w) A (match v with
      | .ref a => (do
        let x ← load a
        match x.data with
          | .seq xs _ => pure xs.toList
          | _ => unsupported "internal:collect")
      | _ => unsupported "internal:collect") Q E s'
    | .ok _ => False
    | .error e => E e s') (s := { s with heap := s.heap.push { cls := .type "list", data := .seq #[] } }) (src_set D) hh (Heap.get?_push_of_some _ ho) s.heap.objs.size (Nat.ne_of_gt hlt) (Nat.ne_of_gt hlt) (.ref s.heap.objs.size) 0 (Heap.get?_push_size _ rfl) (fun h' tk acc' c' hk hS' hacc => ?_) (by rw [sizeLine_eq]; have := D.n3; omega)
  have e : acc'.toList = walkV w S ep es := by
    refine List.ext_getElem? fun j => ?_
    rw [Array.getElem?_toList]
    by_cases hj : j < acc'.size
    · have hv : acc'[j]? = some acc'[j] := Array.getElem?_eq_getElem hj
      rw [hv]; exact (hacc.2 j _ hv).symm
    · rw [Array.getElem?_eq_none_iff.mpr (by omega), List.getElem?_eq_none_iff.mpr]
      rw [walkV_len, ← hacc.1]; omega
  dsimp only
  refine wpAny_bind (wpAny_load hS' (wpAny_pure ?_))
  rw [e]
  exact h h' tk fun b o hb => hk b o (Nat.ne_of_lt (Heap.lt_size hb)) (Heap.get?_push_of_some _ hb)
end
end TupSet
end PySem


set_option Elab.async false
set_option maxRecDepth 100000
set_option maxHeartbeats 4000000
set_option linter.unusedVariables false
/-! tuples of ints compared and sorted -/
namespace PySem
namespace TupSet
open SetTable PyProof.Rows PySem.W

def lexLt : List Int → List Int → Bool
  | [], [] => false
  | [], _ :: _ => true
  | _ :: _, [] => false
  | a :: as, b :: bs => if a = b then lexLt as bs else decide (a < b)

theorem lex_irrefl : ∀ x, lexLt x x = false
  | [] => rfl
  | a :: as => by simp [lexLt, lex_irrefl as]
theorem lex_total : ∀ x y, lexLt x y = false → lexLt y x = false → x = y
  | [], [], _, _ => rfl
  | [], _ :: _, h, _ => nomatch h
  | _ :: _, [], _, h => nomatch h
  | a :: as, b :: bs, h1, h2 => by
    by_cases e : a = b
    · subst e
      simp [lexLt] at h1 h2
      rw [lex_total as bs h1 h2]
    · have e' : ¬ b = a := fun h => e h.symm
      simp [lexLt, e, e'] at h1 h2
      omega
theorem lex_trans : ∀ x y z, lexLt x y = true → lexLt y z = true → lexLt x z = true
  | [], [], _, h, _ => nomatch h
  | [], _ :: _, [], _, h => nomatch h
  | [], _ :: _, _ :: _, _, _ => rfl
  | _ :: _, [], _, h, _ => nomatch h
  | _ :: _, _ :: _, [], _, h => nomatch h
  | a :: as, b :: bs, c :: cs, h1, h2 => by
    by_cases e1 : a = b
    · subst e1
      by_cases e2 : a = c
      · subst e2
        simp [lexLt] at h1 h2 ⊢
        exact lex_trans as bs cs h1 h2
      · simp [lexLt, e2] at h1 h2 ⊢
        exact h2
    · by_cases e2 : b = c
      · subst e2
        simp [lexLt, e1] at h1 h2 ⊢
        exact h1
      · simp [lexLt, e1, e2] at h1 h2
        have e3 : ¬ a = c := by omega
        simp [lexLt, e3]; omega
theorem lex_asymm {x y : List Int} (h : lexLt x y = true) : lexLt y x = false := by
  cases h' : lexLt y x with
  | false => rfl
  | true => have := lex_trans _ _ _ h h'; rw [lex_irrefl] at this; exact nomatch this
/-- not greater -/
def lexLe (x y : List Int) : Prop := lexLt y x = false
theorem le_trans' {x y z : List Int} (h1 : lexLe x y) (h2 : lexLe y z) : lexLe x z := by
  unfold lexLe at *
  cases h : lexLt z x with
  | false => rfl
  | true =>
    by_cases e : x = y
    · subst e; rw [h] at h2; exact h2
    · have hxy : lexLt x y = true := by
        cases h3 : lexLt x y with
        | true => rfl
        | false => exact absurd (lex_total _ _ h3 h1) e
      have := lex_trans _ _ _ h hxy
      rw [this] at h2; exact nomatch h2
theorem le_antisymm' {x y : List Int} (h1 : lexLe x y) (h2 : lexLe y x) : x = y := lex_total _ _ h2 h1

def SortedT (l : List (List Int)) : Prop := l.Pairwise lexLe

theorem sorted_unique : ∀ {l l' : List (List Int)}, l.Perm l' → SortedT l → SortedT l' → l = l'
  | [], l', p, _, _ => by rw [List.Perm.nil_eq p]
  | a :: l, [], p, _, _ => by have := p.length_eq; simp at this
  | a :: l, b :: l', p, s, s' => by
    have s1 := List.pairwise_cons.mp s
    have s1' := List.pairwise_cons.mp s'
    have hab : a = b := by
      have ha : a ∈ b :: l' := p.mem_iff.mp List.mem_cons_self
      have hb : b ∈ a :: l := p.mem_iff.mpr List.mem_cons_self
      rcases List.mem_cons.mp ha with e | ha
      · exact e
      · rcases List.mem_cons.mp hb with e | hb
        · exact e.symm
        · exact le_antisymm' (s1.1 b hb) (s1'.1 a ha)
    subst hab
    rw [sorted_unique (List.Perm.cons_inv p) s1.2 s1'.2]

def insT (x : List Int) : List (List Int) → List (List Int)
  | [] => [x]
  | y :: l => if lexLt y x = true then y :: insT x l else x :: y :: l
def isort : List (List Int) → List (List Int)
  | [] => []
  | x :: l => insT x (isort l)
theorem insT_perm (x : List Int) : ∀ l, (insT x l).Perm (x :: l)
  | [] => List.Perm.refl _
  | y :: l => by
    unfold insT
    split
    · exact ((insT_perm x l).cons y).trans (List.Perm.swap _ _ _)
    · exact List.Perm.refl _
theorem isort_perm : ∀ l, (isort l).Perm l
  | [] => List.Perm.refl _
  | x :: l => (insT_perm x _).trans ((isort_perm l).cons x)
theorem insT_sorted (x : List Int) : ∀ l, SortedT l → SortedT (insT x l)
  | [], _ => List.pairwise_singleton _ _
  | y :: l, s => by
    have s1 := List.pairwise_cons.mp s
    unfold insT
    split
    · rename_i h
      refine List.pairwise_cons.mpr ⟨fun z hz => ?_, insT_sorted x l s1.2⟩
      rcases List.mem_cons.mp ((insT_perm x l).mem_iff.mp hz) with e | hz
      · subst e; exact lex_asymm h
      · exact s1.1 z hz
    · rename_i h
      have hxy : lexLe x y := by unfold lexLe; simpa using h
      refine List.pairwise_cons.mpr ⟨fun z hz => ?_, s⟩
      rcases List.mem_cons.mp hz with e | hz
      · subst e; exact hxy
      · exact le_trans' hxy (s1.1 z hz)
theorem isort_sorted : ∀ l, SortedT (isort l)
  | [] => List.Pairwise.nil
  | x :: l => insT_sorted x _ (isort_sorted l)
theorem isort_of {l l' : List (List Int)} (p : l'.Perm l) (s : SortedT l') : l' = isort l := sorted_unique (p.trans (isort_perm l).symm) s (isort_sorted l)

/-- a tree of questions, answered by a plain function -/
def runT {α : Type} (lt : Nat → Nat → Bool) : KasT α → α
  | .ret a => a
  | .ask i j k => runT lt (k (lt i j))
def asksB {α : Type} (n : Nat) : KasT α → Bool
  | .ret _ => true
  | .ask i j k => decide (i < n) && decide (j < n) && asksB n (k true) && asksB n (k false)
theorem asksB_ask {α : Type} {n i j : Nat} {k : Bool → KasT α} (h : asksB n (.ask i j k) = true) : i < n ∧ j < n ∧ ∀ b, asksB n (k b) = true := by
  simp only [asksB, Bool.and_eq_true, decide_eq_true_eq] at h
  exact ⟨h.1.1.1, h.1.1.2, fun b => by cases b; exact h.2; exact h.1.2⟩
theorem runT_wp {α : Type} {n : Nat} {lt : Nat → Nat → Bool} {cmp : Nat → Nat → (Bool → Shared → Prop) → Shared → Prop} {s : Shared} (hc : ∀ i j C, i < n → j < n → C (lt i j) s → cmp i j C s) {Q : α → Shared → Prop} : ∀ (t : KasT α), asksB n t = true → Q (runT lt t) s → t.kasWp cmp Q s
  | .ret a, _, h => h
  | .ask i j k, ha, h => by
    have a := asksB_ask ha
    exact hc i j _ a.1 a.2.1 (runT_wp hc (k (lt i j)) (a.2.2 _) h)
theorem runT_congr {α : Type} {n : Nat} {lt lt' : Nat → Nat → Bool} (hc : ∀ i j, i < n → j < n → lt i j = lt' i j) : ∀ (t : KasT α), asksB n t = true → runT lt t = runT lt' t
  | .ret a, _ => rfl
  | .ask i j k, ha => by
    have a := asksB_ask ha
    show runT lt (k (lt i j)) = runT lt' (k (lt' i j))
    rw [hc i j a.1 a.2.1]
    exact runT_congr hc (k (lt' i j)) (a.2.2 _)

def ltb (a b c d e f : Bool) : Nat → Nat → Bool
  | 1, 0 => a | 0, 1 => b | 2, 0 => c | 0, 2 => d | 2, 1 => e | 1, 2 => f | _, _ => false
def consB (lt : Nat → Nat → Bool) : Bool :=
  [0, 1, 2].all fun i => [0, 1, 2].all fun j => !(lt i j && lt j i) && [0, 1, 2].all fun k => (!(lt i j && lt j k) || lt i k) && (!(!lt j i && !lt k j) || !lt k i)
def okB (lt : Nat → Nat → Bool) : List Nat → Bool
  | [] => true
  | a :: l => (l.all fun b => !lt b a) && okB lt l

theorem sort3B : ∀ a b c d e f : Bool, consB (ltb a b c d e f) = true → (okB (ltb a b c d e f) (runT (ltb a b c d e f) (kas_sort 3)).toList = true ∧ (runT (ltb a b c d e f) (kas_sort 3)).toList.isPerm [0, 1, 2] = true) := by decide +kernel
theorem sort2B : ∀ a b : Bool, consB (ltb a b false false false false) = true ∨ True → (a && b) = false → (okB (ltb a b false false false false) (runT (ltb a b false false false false) (kas_sort 2)).toList = true ∧ (runT (ltb a b false false false false) (kas_sort 2)).toList.isPerm [0, 1] = true) := by decide +kernel
theorem asks2 : asksB 2 (kas_sort 2) = true := by decide +kernel
theorem asks3 : asksB 3 (kas_sort 3) = true := by decide +kernel

def ltX (xs : List (List Int)) (i j : Nat) : Bool := lexLt (xs.getD i []) (xs.getD j [])

theorem okB_sorted {xs : List (List Int)} {lt : Nat → Nat → Bool} : ∀ {l : List Nat}, (∀ i ∈ l, ∀ j ∈ l, lt i j = ltX xs i j) → okB lt l = true → SortedT (l.map fun i => xs.getD i [])
  | [], _, _ => List.Pairwise.nil
  | a :: l, he, h => by
    simp only [okB, Bool.and_eq_true, List.all_eq_true] at h
    refine List.pairwise_cons.mpr ⟨fun z hz => ?_, okB_sorted (fun i hi j hj => he i (List.mem_cons_of_mem _ hi) j (List.mem_cons_of_mem _ hj)) h.2⟩
    obtain ⟨b, hb, rfl⟩ := List.mem_map.mp hz
    have h1 := h.1 b hb
    rw [he b (List.mem_cons_of_mem _ hb) a List.mem_cons_self] at h1
    show lexLt (xs.getD b []) (xs.getD a []) = false
    simpa [ltX] using h1

theorem sortN {xs : List (List Int)} (h2 : 2 ≤ xs.length) (h3 : xs.length ≤ 3) :
    asksB xs.length (kas_sort xs.length) = true ∧ (runT (ltX xs) (kas_sort xs.length)).toList.map (fun i => xs.getD i []) = isort xs ∧ ∀ i ∈ (runT (ltX xs) (kas_sort xs.length)).toList, i < xs.length := by
  match xs, h2, h3 with
  | [x, y], _, _ =>
    have hc : ∀ i j, i < 2 → j < 2 → ltX [x, y] i j = ltb (lexLt y x) (lexLt x y) false false false false i j := by
      intro i j hi hj
      match i, j, hi, hj with
      | 0, 0, _, _ => exact lex_irrefl x
      | 0, 1, _, _ => rfl
      | 1, 0, _, _ => rfl
      | 1, 1, _, _ => exact lex_irrefl y
      | _ + 2, _, h, _ => omega
      | _, _ + 2, _, h => omega
    have hb := sort2B (lexLt y x) (lexLt x y) (.inr trivial) (by
      cases h : lexLt y x with
      | false => rfl
      | true => rw [lex_asymm h]; rfl)
    have hr : runT (ltX [x, y]) (kas_sort 2) = runT (ltb (lexLt y x) (lexLt x y) false false false false) (kas_sort 2) := runT_congr hc _ asks2
    have hp := List.isPerm_iff.mp hb.2
    have hlt : ∀ i ∈ (runT (ltX [x, y]) (kas_sort 2)).toList, i < 2 := fun i hi => by
      rw [hr] at hi
      have := hp.mem_iff.mp hi
      simp at this; omega
    refine ⟨asks2, ?_, hlt⟩
    show List.map _ (runT (ltX [x, y]) (kas_sort 2)).toList = _
    refine isort_of ?_ (okB_sorted (lt := ltb (lexLt y x) (lexLt x y) false false false false) (fun i hi j hj => (hc i j (hlt i hi) (hlt j hj)).symm) (by rw [hr]; exact hb.1))
    rw [hr]
    exact (hp.map _).trans (List.Perm.refl _)
  | [x, y, z], _, _ =>
    have hc : ∀ i j, i < 3 → j < 3 → ltX [x, y, z] i j = ltb (lexLt y x) (lexLt x y) (lexLt z x) (lexLt x z) (lexLt z y) (lexLt y z) i j := by
      intro i j hi hj
      match i, j, hi, hj with
      | 0, 0, _, _ => exact lex_irrefl x
      | 0, 1, _, _ => rfl
      | 0, 2, _, _ => rfl
      | 1, 0, _, _ => rfl
      | 1, 1, _, _ => exact lex_irrefl y
      | 1, 2, _, _ => rfl
      | 2, 0, _, _ => rfl
      | 2, 1, _, _ => rfl
      | 2, 2, _, _ => exact lex_irrefl z
      | _ + 3, _, h, _ => omega
      | _, _ + 3, _, h => omega
    have hcons : consB (ltb (lexLt y x) (lexLt x y) (lexLt z x) (lexLt x z) (lexLt z y) (lexLt y z)) = true := by
      simp only [consB, List.all_eq_true]
      intro i hi j hj
      have hi' : i < 3 := by simp at hi; omega
      have hj' : j < 3 := by simp at hj; omega
      rw [← hc i j hi' hj', ← hc j i hj' hi']
      rw [Bool.and_eq_true, List.all_eq_true]
      refine ⟨?_, fun k hk => ?_⟩
      · cases h : ltX [x, y, z] i j with
        | false => rfl
        | true => rw [show ltX [x, y, z] j i = false from lex_asymm h]; rfl
      · have hk' : k < 3 := by simp at hk; omega
        rw [← hc j k hj' hk', ← hc i k hi' hk', ← hc k j hk' hj', ← hc k i hk' hi']
        rw [Bool.and_eq_true]
        constructor
        · cases h1 : ltX [x, y, z] i j with
          | false => rfl
          | true =>
            cases h2 : ltX [x, y, z] j k with
            | false => rfl
            | true => rw [show ltX [x, y, z] i k = true from lex_trans _ _ _ h1 h2]; rfl
        · cases h1 : ltX [x, y, z] j i with
          | true => rfl
          | false =>
            cases h2 : ltX [x, y, z] k j with
            | true => rfl
            | false => rw [show ltX [x, y, z] k i = false from le_trans' h1 h2]; rfl
    have hb := sort3B _ _ _ _ _ _ hcons
    have hr : runT (ltX [x, y, z]) (kas_sort 3) = runT (ltb (lexLt y x) (lexLt x y) (lexLt z x) (lexLt x z) (lexLt z y) (lexLt y z)) (kas_sort 3) := runT_congr hc _ asks3
    have hp := List.isPerm_iff.mp hb.2
    have hlt : ∀ i ∈ (runT (ltX [x, y, z]) (kas_sort 3)).toList, i < 3 := fun i hi => by
      rw [hr] at hi
      have := hp.mem_iff.mp hi
      simp at this; omega
    refine ⟨asks3, ?_, hlt⟩
    show List.map _ (runT (ltX [x, y, z]) (kas_sort 3)).toList = _
    refine isort_of ?_ (okB_sorted (lt := ltb (lexLt y x) (lexLt x y) (lexLt z x) (lexLt x z) (lexLt z y) (lexLt y z)) (fun i hi j hj => (hc i j (hlt i hi) (hlt j hj)).symm) (by rw [hr]; exact hb.1))
    rw [hr]
    exact (hp.map _).trans (List.Perm.refl _)
end TupSet
end PySem


set_option Elab.async false
set_option maxRecDepth 100000
set_option maxHeartbeats 4000000
set_option linter.unusedVariables false
/-! sorting a list of at most three tuples of ints; sorted(set) -/
namespace PySem
namespace TupSet
open SetTable PyProof.Rows PySem.W

def KeysL (prog : Program) (w : World) (h : Heap) : List Value → List (List Int) → Prop
  | [], [] => True
  | v :: vs, x :: xs => (∃ a, v = .ref a ∧ IsTupleKey (intKind prog w) h x a) ∧ KeysL prog w h vs xs
  | _, _ => False

section
variable {prog : Program} {w : World}
theorem KeysL.length {h : Heap} : ∀ {vs : List Value} {xs : List (List Int)}, KeysL prog w h vs xs → vs.length = xs.length
  | [], [], _ => rfl
  | [], _ :: _, h => h.elim
  | _ :: _, [], h => h.elim
  | _ :: _, _ :: _, h => by simp [KeysL.length h.2]
theorem KeysL.at {h : Heap} : ∀ {vs : List Value} {xs : List (List Int)} (_ : KeysL prog w h vs xs) {i : Nat}, i < xs.length → ∃ a, vs.getD i .none = .ref a ∧ IsTupleKey (intKind prog w) h (xs.getD i []) a
  | [], [], _, i, hi => by simp at hi
  | [], _ :: _, h, _, _ => h.elim
  | _ :: _, [], h, _, _ => h.elim
  | v :: vs, x :: xs, h, 0, _ => by simpa using h.1
  | v :: vs, x :: xs, h, i + 1, hi => by simpa using KeysL.at h.2 (i := i) (by simpa using hi)
theorem KeysL.imp {h h' : Heap} (k : ∀ x a, IsTupleKey (intKind prog w) h x a → IsTupleKey (intKind prog w) h' x a) : ∀ {vs : List Value} {xs : List (List Int)} (_ : KeysL prog w h vs xs), KeysL prog w h' vs xs
  | [], [], _ => trivial
  | [], _ :: _, h => h.elim
  | _ :: _, [], h => h.elim
  | v :: vs, x :: xs, h => ⟨h.1.elim fun a ha => ⟨a, ha.1, k _ _ ha.2⟩, KeysL.imp k h.2⟩
theorem KeysL.pick {h : Heap} {vs : List Value} {xs : List (List Int)} (k : KeysL prog w h vs xs) : ∀ (p : List Nat), (∀ i ∈ p, i < xs.length) → KeysL prog w h (p.map fun i => vs.getD i .none) (p.map fun i => xs.getD i [])
  | [], _ => trivial
  | i :: p, hp => ⟨k.at (hp i List.mem_cons_self), KeysL.pick k p fun j hj => hp j (List.mem_cons_of_mem _ hj)⟩
theorem KeysL.perm {h : Heap} {vs vs' : List Value} (p : vs'.Perm vs) : ∀ {xs : List (List Int)}, KeysL prog w h vs xs → ∃ ys, ys.Perm xs ∧ KeysL prog w h vs' ys := by
  induction p with
  | nil => intro xs k; exact ⟨xs, List.Perm.refl _, k⟩
  | cons v p ih =>
    intro xs k
    match xs, k with
    | [], k => exact k.elim
    | x :: xs, k =>
      obtain ⟨ys, hy, k'⟩ := ih k.2
      exact ⟨x :: ys, hy.cons x, k.1, k'⟩
  | swap u v l =>
    intro xs k
    match xs, k with
    | [], k => exact k.elim
    | [x], k => exact k.2.elim
    | x :: y :: xs, k => exact ⟨y :: x :: xs, List.Perm.swap _ _ _, k.2.1, k.1, k.2.2⟩
  | trans p q ih1 ih2 =>
    intro xs k
    obtain ⟨ys, hy, k1⟩ := ih2 k
    obtain ⟨zs, hz, k2⟩ := ih1 k1
    exact ⟨zs, hz.trans hy, k2⟩
theorem EntsOf.keys {h : Heap} : ∀ {es : List (Int × Value)} {xs : List (List Int)}, EntsOf prog w h es xs → KeysL prog w h (es.map (·.2)) xs
  | [], [], _ => trivial
  | [], _ :: _, h => h.elim
  | _ :: _, [], h => h.elim
  | _ :: _, _ :: _, h => ⟨h.1.2, EntsOf.keys h.2⟩
theorem KeysL.firsts {h : Heap} : ∀ {vs : List Value} {xs : List (List Int)}, KeysL prog w h vs xs → (∀ x ∈ xs, x ≠ []) → ∃ fs, KatTups h vs fs ∧ fs.length = vs.length ∧ ∀ v ∈ fs, ∃ k t, v = Value.int k t
  | [], [], _, _ => ⟨[], trivial, rfl, by simp⟩
  | [], _ :: _, h, _ => h.elim
  | _ :: _, [], h, _ => h.elim
  | v :: vs, x :: xs, k, hne => by
    obtain ⟨⟨a, rfl, o, items, n, ho, hc, hd, hi⟩, kr⟩ := k
    obtain ⟨fs, h1, h2, h3⟩ := KeysL.firsts kr fun y hy => hne y (List.mem_cons_of_mem _ hy)
    have hx := hne x List.mem_cons_self
    obtain ⟨l⟩ := items
    dsimp only at hi
    match x, l, hi, hx with
    | [], _, _, hx => exact absurd rfl hx
    | k0 :: ks, f :: r, hi, _ =>
      refine ⟨f :: fs, KatTups.cons ho hc hd rfl h1, by simp [h2], fun v hv => ?_⟩
      rcases List.mem_cons.mp hv with rfl | hv
      · exact items_int hi v List.mem_cons_self
      · exact h3 v hv

variable {A : Around} {E : Value → Shared → Prop} {s : Shared}
theorem wp_lex {b : Bool} {Q : Bool → Shared → Prop} : ∀ {x y : List Int} {vs us : List Value} (_ : ItemsAre (intKind prog w) x vs) (_ : ItemsAre (intKind prog w) y us) (fin : Bool) (i : Nat), fin = decide (vs.length < us.length) → Q (lexLt x y) s →
    KatLex prog w A b fin Q (vs.zip us) i s
  | [], [], _, _, .nil, .nil, fin, i, hf, h => by
    rw [hf]; exact kat_nil h
  | [], _ :: _, _, _, .nil, .cons _ _, fin, i, hf, h => by
    rw [hf]; exact kat_nil (by simpa [lexLt] using h)
  | _ :: _, [], _, _, .cons _ _, .nil, fin, i, hf, h => by
    rw [hf]; exact kat_nil (by simpa [lexLt] using h)
  | p :: x, q :: y, v :: vs, u :: us, .cons h1 hx, .cons h2 hy, fin, i, hf, h => by
    refine kat_cons ((intKind prog w).eqBool h1 h2 ?_)
    by_cases e : p = q
    · rw [decide_eq_true e]
      refine kat_yes (wp_lex hx hy fin (i + 1) (by rw [hf]; simp) ?_)
      simpa [lexLt, e] using h
    · rw [decide_eq_false e]
      refine kat_no ?_
      obtain ⟨t1, rfl⟩ := isInt_of h1
      obtain ⟨t2, rfl⟩ := isInt_of h2
      have h' : Q (decide (p < q)) s := by simpa [lexLt, e] using h
      cases (b && i == 0) with
      | true => exact oneLt_int h'
      | false => exact kat_one _ _ (P.lt_int (by exact h'))
theorem wp_tlt {b : Bool} {x y : List Int} {a c : Addr} {Q : Bool → Shared → Prop} (hx : IsTupleKey (intKind prog w) s.heap x a) (hy : IsTupleKey (intKind prog w) s.heap y c) (h : Q (lexLt x y) s) :
    wpAny (model prog w) A (keyLt' (tuples' b) (.ref a) (.ref c)) Q E s := by
  obtain ⟨o, items, n, ho, _, hd, hi⟩ := hx
  obtain ⟨o', items', n', ho', _, hd', hi'⟩ := hy
  exact kat_lt ho hd ho' hd' (wp_lex hi hi' _ 0 (by simp) h)

theorem keeps_list {h h' : Heap} {ks : List Int} {a d : Addr} {vs : Array Value} {n : Nat} (x : IsTupleKey (intKind prog w) h ks a) (ho : h.get? d = some (seqObj "list" vs n)) (hs : ∀ b o, b ≠ d → h.get? b = some o → h'.get? b = some o) :
    IsTupleKey (intKind prog w) h' ks a := by
  obtain ⟨o', items, m, ho', hc, hd', hi⟩ := x
  have hne : a ≠ d := by
    rintro rfl
    obtain rfl : o' = seqObj "list" vs n := Option.some.inj (ho'.symm.trans ho)
    simp [seqObj] at hc
  exact ⟨o', items, m, hs a _ hne ho', hc, hd', hi⟩

/-- list.sort of at most three tuples of ints -/
theorem wp_sort {a : Addr} {vs : List Value} {n : Nat} {xs : List (List Int)} {g : Heap} {P : PySem.Fin → Shared → Prop} (ho : s.heap.get? a = some (seqObj "list" vs.toArray n)) (hG : KeysL prog w g vs xs) (kg : ∀ x c, IsTupleKey (intKind prog w) g x c → IsTupleKey (intKind prog w) s.heap x c) (hne : ∀ x ∈ xs, x ≠ []) (h3 : xs.length ≤ 3)
    (h : ∀ h' out c, (∀ b o, b ≠ a → s.heap.get? b = some o → h'.get? b = some o) → h'.get? a = some (seqObj "list" (List.toArray out) c) → KeysL prog w g out (isort xs) → P (.done (.ret .none)) { s with heap := h' }) :
    wpAny (model prog w) A (Builtin.«list.sort» ⟨[.ref a], []⟩) P E s := by
  have hK : KeysL prog w s.heap vs xs := hG.imp kg
  have hlen := hK.length
  have halt : a < s.heap.objs.size := Heap.lt_size ho
  have s1 := Heap.SameBut.update s.heap a (Obj.mapSeq fun _ => (#[] : Array Value))
  obtain ⟨e1, ho1⟩ : ∃ e1, (s.heap.update a (Obj.mapSeq fun _ => (#[] : Array Value))).get? a = some (seqObj "list" #[] e1) := ⟨_, get?_update_seq ho fun _ => #[]⟩
  have ho3 : (((s.heap.update a (Obj.mapSeq fun _ => (#[] : Array Value))).push (seqObj "tuple" vs.toArray 0)).push (seqObj "list" #[] 0)).get? a = some (seqObj "list" #[] e1) :=
    Heap.get?_push_of_some _ (Heap.get?_push_of_some _ ho1)
  have kp : ∀ b o, b ≠ a → s.heap.get? b = some o → (((s.heap.update a (Obj.mapSeq fun _ => (#[] : Array Value))).push (seqObj "tuple" vs.toArray 0)).push (seqObj "list" #[] 0)).get? b = some o := fun b o hb e =>
    Heap.get?_push_of_some _ (Heap.get?_push_of_some _ (by rw [s1.2 b hb]; exact e))
  generalize hH : ((s.heap.update a (Obj.mapSeq fun _ => (#[] : Array Value))).push (seqObj "tuple" vs.toArray 0)).push (seqObj "list" #[] 0) = H at ho3 kp
  have hK3 : KeysL prog w H vs xs := hK.imp fun x c k => keeps_list k ho kp
  -- what is behind the sorting
  have fin : ∀ (out : List Value), out.length = vs.length → KeysL prog w g out (isort xs) → ∃ c2, (H.update a (Obj.mapSeq fun _ => List.toArray out)).get? a = some (seqObj "list" (List.toArray out) c2) ∧ P (.done (.ret .none)) { s with heap := H.update a (Obj.mapSeq fun _ => List.toArray out) } := fun out hol hko => by
    have s2 := Heap.SameBut.update H a (Obj.mapSeq fun _ => List.toArray out)
    obtain ⟨c2, hc2⟩ : ∃ c2, (H.update a (Obj.mapSeq fun _ => List.toArray out)).get? a = some (seqObj "list" (List.toArray out) c2) := ⟨_, get?_update_seq ho3 fun _ => List.toArray out⟩
    have kk : ∀ b o, b ≠ a → H.get? b = some o → (H.update a (Obj.mapSeq fun _ => List.toArray out)).get? b = some o := fun b o hb e => by rw [s2.2 b hb]; exact e
    exact ⟨c2, hc2, h _ out c2 (fun b o hb e => kk b o hb (kp b o hb e)) hc2 hko⟩
  have h4 : vs.length ≤ 3 := by omega
  rw [list_sort_plain]
  refine wpAny_bind (listItems_at ho rfl ?_)
  refine wpAny_bind (listUpdate_at ho rfl ?_ (by rw [List.size_toArray, sizeLine_eq]; omega) (Nat.zero_le _))
  refine wpAny_bind (seqEpoch_at ho1 rfl ?_)
  refine wpAny_bind (wpAny_newTuple ?_ (by show vs.length ≤ _; rw [sizeLine_eq]; omega))
  refine wpAny_bind (wpAny_newList ?_ (Nat.zero_le _))
  refine wpAny_holding ?_
  show wpAny (model prog w) A _ P E { s with heap := ((s.heap.update a (Obj.mapSeq fun _ => (#[] : Array Value))).push (seqObj "tuple" vs.toArray 0)).push (seqObj "list" #[] 0) }
  rw [hH]
  dsimp only
  by_cases h2 : 2 ≤ vs.length
  · have hn2 : ¬ vs.toArray.size < 2 := by rw [List.size_toArray]; omega
    rw [if_neg hn2, if_neg hn2]
    obtain ⟨fs, hf1, hf2, hf3⟩ := hK3.firsts hne
    refine wpAny_bind (kat_kind (s := { s with heap := H }) (T := .type "int") hf1 (by omega) (fun v hv => by obtain ⟨k, t, rfl⟩ := hf3 v hv; exact .now) (by decide) ?_)
    obtain ⟨q1, q2, q3⟩ := sortN (xs := xs) (by omega) h3
    refine wpAny_bind (wpAny_mono (kat_run (s := { s with heap := H }) (ks := vs) (vs := vs) (Q := fun st' s' => s' = { s with heap := H } ∧ failedOf st' = none ∧ (arrOf st').map (·.2) = List.toArray ((runT (ltX xs) (kas_sort xs.length)).toList.map fun i => vs.getD i Value.none))
      (G := fun p s' => s' = { s with heap := H } ∧ p = runT (ltX xs) (kas_sort xs.length)) rfl h2 (by omega) (fun p st' s' a1 a2 a3 a4 => ⟨a4.1, a3, by rw [kat_snds rfl a2, a4.2]⟩) ?_) ?_ fun _ _ e => e)
    · rw [hlen]
      refine runT_wp (n := xs.length) (lt := ltX xs) (fun i j C hi hj hC => ?_) _ q1 ⟨rfl, rfl⟩
      obtain ⟨c, ec, kc⟩ := hK3.at hi
      obtain ⟨d, ed, kd⟩ := hK3.at hj
      unfold kas_ask
      rw [ec, ed]
      exact wp_tlt (s := { s with heap := H }) kc kd hC
    · rintro ⟨⟨⟩, st'⟩ s' ⟨rfl, hfail, hout⟩
      dsimp only
      rw [hout]
      have hko := hG.pick _ q3
      rw [q2] at hko
      have hol : ((runT (ltX xs) (kas_sort xs.length)).toList.map fun i => vs.getD i Value.none).length = vs.length := by
        rw [hko.length, (isort_perm xs).length_eq, hlen]
      obtain ⟨c2, hc2, hP⟩ := fin _ hol hko
      refine wpAny_bind (seqEpoch_at ho3 rfl ?_)
      refine wpAny_bind (listUpdate_at (s := { s with heap := H }) ho3 rfl ?_ (Nat.zero_le _) (by rw [List.size_toArray, hol, sizeLine_eq]; omega))
      rw [hfail]
      simp only [bne_self_eq_false, Bool.false_eq_true, if_false]
      exact wpAny_pure hP
  · have hn2 : vs.toArray.size < 2 := by rw [List.size_toArray]; omega
    rw [if_pos hn2, if_pos hn2]
    have hiso : isort xs = xs := by
      match xs, hlen with
      | [], _ => rfl
      | [x], _ => rfl
      | _ :: _ :: _, e => simp at e; omega
    obtain ⟨c2, hc2, hP⟩ := fin vs rfl (by rw [hiso]; exact hG)
    refine wpAny_bind (wpAny_pure ?_)
    refine wpAny_bind (wpAny_pure ?_)
    dsimp only
    have hz : Array.map (fun x => x.snd) (arrOf (SortSt.mk' general' (vs.toArray.zip vs.toArray) #[] 7 none)) = List.toArray vs := by
      show Array.map (fun x => x.snd) (vs.toArray.zip vs.toArray) = _
      apply Array.toList_inj.mp
      rw [Array.toList_map, Array.toList_zip]
      exact List.map_snd_zip (Nat.le_refl _)
    rw [hz]
    refine wpAny_bind (seqEpoch_at ho3 rfl ?_)
    refine wpAny_bind (listUpdate_at (s := { s with heap := H }) ho3 rfl ?_ (Nat.zero_le _) (by rw [List.size_toArray, sizeLine_eq]; omega))
    simp only [bne_self_eq_false, Bool.false_eq_true, if_false]
    exact wpAny_pure hP
end
end TupSet
end PySem


set_option Elab.async false
set_option maxRecDepth 100000
set_option maxHeartbeats 4000000
set_option linter.unusedVariables false
/-! sorted(S) of a small set of tuples of ints -/
namespace PySem
namespace TupSet
open SetTable PyProof.Rows PySem.W

section
variable {prog : Program} {w : World} {A : Around} {E : Value → Shared → Prop} {s : Shared}
theorem call_sorted {S : Addr} {o : Obj} {es : Array (Int × Value)} {ep : Nat} {t : SetTable} {xs : List (List Int)} {h0 : Heap} {Q : Value → Shared → Prop} (hk0 : ∀ b o, h0.get? b = some o → s.heap.get? b = some o) (hh : A.handled = none) (ho : s.heap.get? S = some o) (D : SetObj w o es ep t)
    (hE : EntsOf prog w h0 es.toList xs) (hne : ∀ x ∈ xs, x ≠ [])
    (h : ∀ d h' tk out c, s.heap.get? d = none → (∀ b o, s.heap.get? b = some o → h'.get? b = some o) → h'.get? d = some (seqObj "list" (List.toArray out) c) → KeysL prog w h0 out (isort xs) → Q (.ref d) { s with heap := h', toks := tk }) :
    wpAny (model prog w) A (call (.builtin "sorted") [.ref S]) Q E s := by
  have hlen := hE.length
  rw [Array.length_toList] at hlen
  have hn3 := D.n3
  obtain ⟨ys, hys, hky⟩ := (EntsOf.keys hE).perm (walkV_perm w S ep es)
  have hyl : ys.length ≤ 3 := by rw [hys.length_eq]; omega
  have hwl := walkV_len w S ep es
  have hiso : isort ys = isort xs := isort_of ((isort_perm ys).trans hys) (isort_sorted ys)
  refine Calls.call_function_entry kind_sorted plain_sorted entry_sorted (args_sorted1 _) ?_
  unfold Builtin.«sorted»
  refine wpAny_bind (m := checkCount "sorted" 1 1 _) (wpAny_pure ?_)
  refine wpAny_bind (wp_collect (A := A.in1) hh ho D fun h1 tk1 hk1 => ?_)
  refine wpAny_bind (wpAny_newList ?_ (by rw [sizeLine_eq]; omega))
  show wpAny _ _ _ _ _ { s with heap := h1.push (seqObj "list" (walkV w S ep es).toArray 0), toks := tk1 }
  have hoL : (h1.push (seqObj "list" (walkV w S ep es).toArray 0)).get? h1.objs.size = some (seqObj "list" (walkV w S ep es).toArray 0) := Heap.get?_push_size _ rfl
  have kp : ∀ b o, s.heap.get? b = some o → (h1.push (seqObj "list" (walkV w S ep es).toArray 0)).get? b = some o := fun b o e => Heap.get?_push_of_some _ (hk1 b o e)
  have hnone : s.heap.get? h1.objs.size = none := by
    cases e : s.heap.get? h1.objs.size with
    | none => rfl
    | some o' => exact absurd (Heap.lt_size (hk1 _ _ e)) (Nat.lt_irrefl _)
  refine wpAny_bind (wpAny_holding (wpAny_call_entry slot_list_sort ⟨_, hoL, rfl⟩ entry_list_sort ?body (args_list_sort _)))
  case body =>
    refine wp_sort (s := { s with heap := h1.push (seqObj "list" (walkV w S ep es).toArray 0), toks := tk1 }) hoL hky (fun x a k => key_mono kp (key_mono hk0 k)) (fun x hx => hne x (hys.mem_iff.mp hx)) hyl fun h' out c hk hd hko => ?_
    rw [hiso] at hko
    refine ⟨_, rfl, wpAny_pure ⟨_, rfl, h _ h' tk1 out c hnone (fun b o e => hk b o (fun eb => ?_) (kp b o e)) hd hko⟩⟩
    rw [eb, hnone] at e
    exact nomatch e
end
end TupSet
end PySem


set_option Elab.async false
set_option maxRecDepth 100000
set_option maxHeartbeats 4000000
set_option linter.unusedVariables false
/-! sorted(set(l)) -/
namespace PySem
namespace TupSet
open SetTable PyProof.Rows PySem.W

/-- what sorted(set(l)) holds -/
def srtT (prog : Program) (w : World) (L : List (List Int)) : List (List Int) := isort (foldT prog w (.fresh 0 0 (ledOf w)) L).2

section
variable {prog : Program} {w : World}
theorem addT_mem {st : SetTable × List (List Int)} {x y : List Int} (h : y ∈ (addT prog w st x).2) : y = x ∨ y ∈ st.2 := by
  unfold addT at h
  split at h
  · simp only [List.mem_append, List.mem_cons] at h
    rcases h with h | h | h
    · exact .inr (List.mem_of_mem_take h)
    · exact .inl h
    · exact .inr (List.mem_of_mem_drop h)
  · exact .inr h
theorem foldl_mem : ∀ {L : List (List Int)} {st : SetTable × List (List Int)} {y : List Int}, y ∈ (L.foldl (addT prog w) st).2 → y ∈ L ∨ y ∈ st.2
  | [], st, y, h => .inr h
  | x :: L, st, y, h => by
    rcases foldl_mem (L := L) h with h | h
    · exact .inl (List.mem_cons_of_mem _ h)
    · rcases addT_mem h with rfl | h
      · exact .inl List.mem_cons_self
      · exact .inr h
theorem foldT_mem {t0 : SetTable} {L : List (List Int)} {y : List Int} (h : y ∈ (foldT prog w t0 L).2) : y ∈ L := by
  rcases foldl_mem h with h | h
  · exact h
  · exact absurd h (by simp)

theorem setObj_of {h0 h : Heap} {S : Addr} {L : List (List Int)} (h3 : L.length ≤ 3) (k : TSetIn prog w h0 h S (foldT prog w (.fresh 0 0 (ledOf w)) L).1 (foldT prog w (.fresh 0 0 (ledOf w)) L).2) :
    ∃ o es ep, h.get? S = some o ∧ SetObj w o es ep (foldT prog w (.fresh 0 0 (ledOf w)) L).1 ∧ EntsOf prog w h0 es.toList (foldT prog w (.fresh 0 0 (ledOf w)) L).2 := by
  obtain ⟨o, es, ep, ho, hex, hd, Sm, hE⟩ := k
  obtain ⟨hr, hl, hn⟩ := foldT_ok prog w L (ledOf w) h3
  have hlen := hE.length
  rw [Array.length_toList] at hlen
  refine ⟨o, es, ep, ho, ⟨hex, hd, by rw [hlen]; exact Sm, by rw [hlen]; exact hn, hr, fun hf => ?_⟩, hE⟩
  rw [hl]; unfold ledOf; rw [hf]; rfl

variable {A : Around} {E : Value → Shared → Prop} {s : Shared}
/-- sorted(S), S what set(l) gave -/
theorem call_sorted_of {h0 : Heap} {S : Addr} {L : List (List Int)} {Q : Value → Shared → Prop} (hh : A.handled = none) (h3 : L.length ≤ 3) (hne : ∀ x ∈ L, x ≠ [])
    (k : TSetIn prog w h0 s.heap S (foldT prog w (.fresh 0 0 (ledOf w)) L).1 (foldT prog w (.fresh 0 0 (ledOf w)) L).2) (hk : ∀ b o, h0.get? b = some o → s.heap.get? b = some o)
    (h : ∀ d h' tk out c, s.heap.get? d = none → (∀ b o, s.heap.get? b = some o → h'.get? b = some o) → h'.get? d = some (seqObj "list" (List.toArray out) c) → KeysL prog w h0 out (srtT prog w L) → Q (.ref d) { s with heap := h', toks := tk }) :
    wpAny (model prog w) A (call (.builtin "sorted") [.ref S]) Q E s := by
  obtain ⟨o, es, ep, ho, D, hE⟩ := setObj_of h3 k
  exact call_sorted hk hh ho D hE (fun x hx => hne x (foldT_mem hx)) h
end
end TupSet
end PySem


set_option Elab.async false
set_option maxRecDepth 100000
set_option maxHeartbeats 4000000
set_option linter.unusedVariables false
/-! sorted(set(e)) over the layer: e a list of at most three tuples of ints -/
namespace L2
open PySem PySem.Spec PyProof.Rows PySem.TupSet

section
variable {P : Program} {w : World} {H H' : Hp} {h h' : Heap} {a : Addr} {o : HO} {fs ex : List Addr}
theorem ObjOk.has (x : ObjOk P w H h a o) : ∃ ob, h.get? a = some ob := by
  cases o with
  | lst xs => obtain ⟨_, _, _, _, e⟩ := x; exact ⟨_, e⟩
  | tup xs => obtain ⟨_, _, _, ob, e, _⟩ := x; exact ⟨_, e⟩
  | dK kvs => obtain ⟨_, _, _, _, o, _, _, e, _⟩ := x; exact ⟨_, e⟩
  | dT kvs => obtain ⟨_, _, _, _, o, _, _, e, _⟩ := x; exact ⟨_, e⟩
  | set S n => obtain ⟨o, _, _, _, e, _⟩ := x; exact ⟨_, e⟩
  | ins C dx fs => obtain ⟨_, _, _, e, _⟩ := x; exact ⟨_, e⟩
  | own y => obtain ⟨_, e⟩ := x; exact ⟨_, e⟩
  | xd fs => obtain ⟨_, ⟨_, _, _, e, _⟩, _⟩ := x; exact ⟨_, e⟩
  | rng lo hi => obtain ⟨_, _, _, e⟩ := x; exact ⟨_, e⟩
  | frz ob u => obtain ⟨e, _⟩ := x; exact ⟨_, e⟩
  | tbl ps => exact ⟨_, show h.get? a = some _ from x⟩
  | met f y => exact ⟨_, show h.get? a = some _ from x⟩
  | ext φ => obtain ⟨_, ⟨_, e⟩, _⟩ := x; exact ⟨_, e⟩
theorem HOk.none_at (x : HOk P w H h) (e : h.get? a = none) : H a = none := by
  cases q : H a with
  | none => rfl
  | some u =>
    obtain ⟨ob, z⟩ := (x a u q).has
    rw [e] at z; cases z
theorem HOk.laidN (x : HOk P w H h) (k : ∀ b u, h.get? b = some u → h'.get? b = some u) (hp : h.get? a = none) (new : ObjOk P w (upd H a o) h' a o) : HOk P w (upd H a o) h' := fun b u e => by
  have hn := x.none_at hp
  by_cases hb : b = a
  · subst hb; rw [upd_same] at e; cases e; exact new
  · rw [upd_ne hb] at e
    exact (x b u e).stay (fun c v _ q => k c v q) (fun c q => by rw [upd_ne (ne_of_none q hn)]; exact q) fun c xs q => by rw [upd_ne (ne_of_none q hn)]; exact q
theorem Un.laidN (k : ∀ b u, h.get? b = some u → h'.get? b = some u) (hp : h.get? a = none) (hn : H a = none) : Un fs ex H (upd H a o) h h' where
  keep := fun b u q _ _ _ => k b u q
  slot := fun b u q _ _ _ => ⟨u.slots, k b u q⟩
  free := fun b u q n _ => by rw [upd_ne (fun z => by rw [z, hp] at q; cases q)]; exact n
  there := fun b u q _ => ⟨u, k b u q⟩
  tups := fun b xs q => by rw [upd_ne (ne_of_none q hn)]; exact q
  frzs := fun b u xs q => by rw [upd_ne (ne_of_none q hn)]; exact q
  tbls := fun b ps q => ⟨#[], by rw [upd_ne (ne_of_none q hn), q]; simp⟩
end
theorem Inv.laidN {X : Cx} {pins : List (Addr × Obj)} {σ : List (Option V)} {H : Hp} {s : Shared} {h' : Heap} {a : Addr} {o : HO} {t' : Nat} (I : Inv X pins σ H s) (k : ∀ b u, s.heap.get? b = some u → h'.get? b = some u) (hp : s.heap.get? a = none) (new : ObjOk X.prog X.w (upd H a o) h' a o) :
    Inv X pins σ (upd H a o) { s with heap := h', toks := t' } := I.un (Un.laidN k hp (I.hok.none_at hp)) (I.hok.laidN k hp new)

/-- the values are tuples of these ints -/
def TupsV (K : PySem.W.Frag) (H : Hp) (ys : List V) (L : List (List Int)) : Prop := Paired (fun y x => ∃ a, y = .ref a ∧ SqT K H a (x.map V.int)) ys L

theorem items_of {prog : Program} {w : World} : ∀ {x : List Int} {its : List Value}, Vals (x.map V.int) its → PySem.ItemsAre (intKind prog w) x its
  | [], _, .nil => .nil
  | k :: x, _, .cons r t => by
    obtain ⟨tk, rfl⟩ := r
    exact .cons (by show Value.isInt k (.int k tk) = true; simp [Value.isInt]) (items_of t)

section
variable {X : Cx} {pins : List (Addr × Obj)} {σ : St} {H : Hp} {s : Shared}
theorem Inv.tkey (I : Inv X pins σ H s) {a : Addr} {x : List Int} (h : SqT X.K H a (x.map V.int)) : IsTupleKey (intKind X.prog X.w) s.heap x a := by
  obtain ⟨its, r, ⟨o, ho, hc, n, hd⟩, _⟩ := I.tuple h
  exact ⟨o, its.toArray, n, ho, hc, hd, by simpa using items_of r⟩

open Classical in
/-- the heap with the known tuples of ints alone -/
noncomputable def tupH (K : PySem.W.Frag) (H : Hp) (h : Heap) : Heap := PySem.W.hideAll h ((List.range h.objs.size).filter fun a => !decide (∃ x : List Int, SqT K H a (x.map V.int)))
theorem tupH_of {K : PySem.W.Frag} {h : Heap} {b : Addr} {o : Obj} (e : (tupH K H h).get? b = some o) : h.get? b = some o ∧ ∃ x : List Int, SqT K H b (x.map V.int) := by
  have e' := PySem.W.of_hideAll _ e
  refine ⟨e', Classical.byContradiction fun n => ?_⟩
  have hm : b ∈ (List.range h.objs.size).filter fun a => !@decide (∃ x : List Int, SqT K H a (x.map V.int)) (Classical.propDecidable _) := List.mem_filter.mpr ⟨List.mem_range.mpr (Heap.lt_size e'), by simp [n]⟩
  have z : (tupH K H h).get? b = none := PySem.W.hideAll_none _ hm
  rw [z] at e; cases e
theorem tupH_get {K : PySem.W.Frag} {h : Heap} {b : Addr} {o : Obj} {x : List Int} (e : h.get? b = some o) (k : SqT K H b (x.map V.int)) : (tupH K H h).get? b = some o := by
  refine PySem.W.hideAll_get _ e fun hm => ?_
  have q := (List.mem_filter.mp hm).2
  have : ∃ x : List Int, SqT K H b (x.map V.int) := ⟨x, k⟩
  simp [this] at q
theorem Inv.tupK (I : Inv X pins σ H s) {a : Addr} {x : List Int} (h : SqT X.K H a (x.map V.int)) : IsTupleKey (intKind X.prog X.w) (tupH X.K H s.heap) x a := by
  obtain ⟨o, its, n, ho, r⟩ := I.tkey h
  exact ⟨o, its, n, tupH_get ho h, r⟩
theorem Inv.ofTupK (I : Inv X pins σ H s) {a : Addr} {x : List Int} (h : IsTupleKey (intKind X.prog X.w) (tupH X.K H s.heap) x a) : SqT X.K H a (x.map V.int) := by
  obtain ⟨o, its, n, ho, r⟩ := h
  obtain ⟨ho', y, hy⟩ := tupH_of ho
  have e : x = y := IsTupleKey.inj (knd := intKind X.prog X.w) ⟨o, its, n, ho', r⟩ (I.tkey hy)
  subst e
  exact hy
theorem Inv.ofKeysL (I : Inv X pins σ H s) : ∀ {vs : List Value} {xs : List (List Int)}, KeysL X.prog X.w (tupH X.K H s.heap) vs xs → ∃ ys, Vals ys vs ∧ TupsV X.K H ys xs
  | [], [], _ => ⟨[], .nil, .nil⟩
  | [], _ :: _, h => h.elim
  | _ :: _, [], h => h.elim
  | v :: vs, x :: xs, h => by
    obtain ⟨⟨a, rfl, k⟩, hr⟩ := h
    obtain ⟨ys, h1, h2⟩ := I.ofKeysL hr
    exact ⟨.ref a :: ys, .cons rfl h1, .cons ⟨a, rfl, I.ofTupK k⟩ h2⟩
theorem TupsV.get {K : PySem.W.Frag} : ∀ {ys : List V} {L : List (List Int)} {its : List Value}, TupsV K H ys L → Vals ys its → ∀ (i : Nat) (v : Value), its[i]? = some v → ∃ a x, v = .ref a ∧ L[i]? = some x ∧ SqT K H a (x.map V.int)
  | _, _, _, .nil, .nil, i, v, e => by simp at e
  | _, _, _, .cons (b := x) p q, .cons r t, 0, v, e => by
    obtain ⟨a, rfl, k⟩ := p
    cases r
    simp at e
    exact ⟨a, x, e.symm, rfl, k⟩
  | _, _, _, .cons p q, .cons r t, i + 1, v, e => by
    obtain ⟨a, x, h1, h2, h3⟩ := TupsV.get q t i v (by simpa using e)
    exact ⟨a, x, h1, by simpa using h2, h3⟩
end

section
variable {X : Cx} {e : Expr} {te : TE} {x y : Str} {p p2 pos pos2 : Pos}
/-- sorted(set(e)) -/
def tSrt (P : Program) (w : World) (K : PySem.W.Frag) (te : TE) : TE := fun σ H Q => te σ H fun v H1 => ∃ l ys L, v = .ref l ∧ SqL K H1 l ys ∧ TupsV K H1 ys L ∧ L.length ≤ 3 ∧ (∀ x ∈ L, x ≠ []) ∧
  ∀ d zs, H1 d = none → TupsV K H1 zs (srtT P w L) → Q (.ref d) (upd H1 d (.lst zs))
theorem srt_len {prog : Program} {w : World} {L : List (List Int)} (h : L.length ≤ 3) : (srtT prog w L).length ≤ 3 := by
  unfold srtT
  rw [(isort_perm _).length_eq]
  have := foldT_len prog w L (.fresh 0 0 (ledOf w), [])
  simp only [List.length_nil] at this
  unfold foldT
  omega
theorem pe_srt (hc : X.calm = true) (hu : X.A.units + 8 < cLine) (hg : Gl X x) (hm : X.mg x = none) (hv : bootBuiltins x = some (.builtin "sorted")) (hg2 : Gl X y) (hm2 : X.mg y = none) (hv2 : bootBuiltins y = some (.type "set")) (he : PE X e te)
    (hn : x ≠ "__name__" := by decide) (hdb : (x == ("__debug__" : Str)) = false := by decide) (hn2 : y ≠ "__name__" := by decide) (hdb2 : (y == ("__debug__" : Str)) = false := by decide)
    (hs : starEach [.Call (.Name y p2) [e] [] pos2] X.env = (false, eval (.Call (.Name y p2) [e] [] pos2) X.env) :: starEach [] X.env := by rfl) (hpl : (backTo pos (starEach [] X.env)).any (·.1) = false := by rfl)
    (hs2 : starEach [e] X.env = (false, eval e X.env) :: starEach [] X.env := by rfl) (hpl2 : (backTo pos2 (starEach [] X.env)).any (·.1) = false := by rfl) :
    PE X (.Call (.Name x p) [.Call (.Name y p2) [e] [] pos2] [] pos) (tSrt X.prog X.w X.K te) := by
  intro pins s σ H Q I h
  refine wpAny_Call_Name_kw (ld_blt I hg hm hv ?_ hn hdb)
  refine PyProof.Rows.callWith_builtin1 ?_ hs hpl
  rw [hs]
  show wpAny _ _ (spliced ((false, eval (.Call (.Name y p2) [e] [] pos2) X.env) :: backTo pos (starEach [] X.env))) _ _ s
  refine Calls.spliced_cons ?_
  refine wpAny_Call_Name_kw (ld_blt I hg2 hm2 hv2 ?_ hn2 hdb2)
  refine PyProof.Rows.callWith_type1 ?_ hs2 hpl2
  rw [hs2]
  show wpAny _ _ (spliced ((false, eval e X.env) :: backTo pos2 (starEach [] X.env))) _ _ s
  refine Calls.spliced_cons (thn (he pins s σ H _ I h) fun u s1 ⟨v, H1, I1, r1, q1⟩ => ?_)
  obtain ⟨l, ys, L, rfl, hl, ht, h3, hne, q1⟩ := q1
  cases r1
  refine Calls.spliced_nil ?_
  obtain ⟨its, rv, pl, hz⟩ := I1.list hl
  have hk0 : ∀ b o, (tupH X.K H1 s1.heap).get? b = some o → s1.heap.get? b = some o := fun b o e => (tupH_of e).1
  refine TupSet.call_set (items := its.toArray) (L := L) (h0 := tupH X.K H1 s1.heap) hk0 (I1.ok.hd hc) hu pl.isList (by rw [List.size_toArray, ← rv.length]; exact Paired.length ht) h3 (fun i v e => ?_) fun h' tk hS hk => ?_
  · obtain ⟨a, x, e1, e2, k⟩ := ht.get rv i v (by simpa using e)
    exact ⟨a, x, e1, e2, I1.tupK k⟩
  · refine Calls.spliced_nil ?_
    refine TupSet.call_sorted_of (s := { s1 with heap := h', toks := tk }) (I1.ok.hd hc) h3 hne hS (fun b o e => hk b o (hk0 b o e)) fun d h2 tk2 out c hd hk2 hdo hko => ?_
    obtain ⟨zs, hzv, hzt⟩ := I1.ofKeysL hko
    have hkk : ∀ b o, s1.heap.get? b = some o → h2.get? b = some o := fun b o e => hk2 b o (hk b o e)
    have J : Inv X pins σ H1 { s1 with heap := h', toks := tk } := I1.kept (h' := h') (t' := tk) hk
    have hdn : H1 d = none := J.hok.none_at hd
    have hlen : zs.length ≤ sizeLine := by
      have a1 := Paired.length hzt
      have a2 := srt_len (prog := X.prog) (w := X.w) h3
      rw [a1]
      exact Nat.le_trans a2 (by decide)
    refine ⟨.ref d, upd H1 d (.lst zs), ?_, rfl, q1 d zs hdn hzt⟩
    exact J.laidN (h' := h2) (t' := tk2) hk2 hd (show ObjOk X.prog X.w _ h2 d (.lst zs) from ⟨hlen, out, c, hzv, hdo⟩)
end
end L2


set_option Elab.async false
set_option maxRecDepth 100000
set_option maxHeartbeats 4000000
set_option linter.unusedVariables false
/-! t == u of tuples of ints; a comprehension over zip(t, u); blocks that close over several names -/
namespace L2
open PySem PySem.Spec PyProof.Rows
/-- a block that closes over names of the def around it -/
theorem cs_of {X : Cx} {ns ys : List Str} {fr : List Nat} {sc : Scope} {cl : List (Str × Addr)} (L : List (Str × NameKind)) (clos : closureFor sc X.env = pure cl) (kind : sc.kind = .function) (nocell : ∀ y ∈ sc.names, y.2 ≠ .cell) (locs : ∀ y ∈ sc.names, y.2 = .local → sc.names.lookup y.1 = some .local)
    (sub : ∀ p ∈ cl, X.env.cells.lookup p.1 = some p.2) (eL : (relabel sc X.env).names = L) (hL : ∀ p ∈ L, p.2 = .cell ∨ p.2 = .free → ∃ c, cl.lookup p.1 = some c) (len : fr.length = ys.length)
    (outs : ∀ (j : Nat) (y : Str), ys[j]? = some y → ∃ i : Nat, fr[j]? = some i ∧ X.N[i]? = some y ∧ (X.env.kindOf y = some .cell ∨ X.env.kindOf y = some .free) ∧ ((relabel sc X.env).names.lookup y = some .cell ∨ (relabel sc X.env).names.lookup y = some .free)) : CScope X ns ys fr sc cl where
  clos := clos
  kind := kind
  nocell := nocell
  locs := locs
  sub := sub
  has := fun y h => by
    rw [eL] at h
    rcases h with h | h
    · exact hL _ (look_mem h) (.inl rfl)
    · exact hL _ (look_mem h) (.inr rfl)
  len := len
  outs := outs

theorem all_eq_ints : ∀ (xs ys : List Int), ((List.range (min xs.length ys.length)).all (fun j => xs.getD j 0 == ys.getD j 0) && xs.length == ys.length) = decide (xs = ys)
  | [], [] => by simp
  | [], _ :: _ => by simp
  | _ :: _, [] => by simp
  | x :: xs, y :: ys => by
    have ih := all_eq_ints xs ys
    have e : min (x :: xs).length (y :: ys).length = min xs.length ys.length + 1 := by simp only [List.length_cons]; omega
    rw [e, List.range_succ_eq_map, List.all_cons, List.all_map]
    have e2 : ((List.range (min xs.length ys.length)).all ((fun j => (x :: xs).getD j 0 == (y :: ys).getD j 0) ∘ Nat.succ)) = (List.range (min xs.length ys.length)).all (fun j => xs.getD j 0 == ys.getD j 0) := rfl
    rw [e2]
    have e3 : ((x :: xs).length == (y :: ys).length) = (xs.length == ys.length) := by simp
    rw [e3, Bool.and_assoc, ih]
    simp
    by_cases hx : x = y
    · subst hx; simp
    · simp [hx]
section
variable {X : Cx}
def rEqTI (K : PySem.W.Frag) : R2 := fun x y H Q => ∃ (a b : Addr) (ns ms : List Int), x = .ref a ∧ y = .ref b ∧ SqT K H a (ns.map V.int) ∧ SqT K H b (ms.map V.int) ∧ Q (.bl (decide (ns = ms))) H
theorem op_eqTI (hu : X.A.units < cLine) : OpR X (compareOp .Eq) (rEqTI X.K) := by
  intro pins s σ H x y v u Q I rx ry h
  obtain ⟨a, b, ns, ms, rfl, rfl, ha, hb, q⟩ := h
  cases rx
  cases ry
  obtain ⟨its, r1, p1, _⟩ := I.tuple ha
  obtain ⟨its2, r2, p2, _⟩ := I.tuple hb
  have l1 : its.toArray.size = ns.length := by rw [List.size_toArray, ← r1.length, List.length_map]
  have l2 : its2.toArray.size = ms.length := by rw [List.size_toArray, ← r2.length, List.length_map]
  have at1 : ∀ {zs : List Int} {us : List Value} (_ : Vals (zs.map V.int) us) (j : Nat) (q : j < us.toArray.size), RelV (.int (zs.getD j 0)) us.toArray[j] := fun {zs us} r j q => by
    have hj : j < zs.length := by have := r.length; rw [List.length_map] at this; simp at q; omega
    obtain ⟨u, e, ru⟩ := r.get (i := j) (x := .int zs[j]) (by rw [List.getElem?_map, List.getElem?_eq_getElem hj]; rfl)
    have z : us[j]? = some us.toArray[j] := by simp [List.getElem?_eq_getElem (by simpa using q : j < us.length)]
    rw [e] at z
    rw [← Option.some.inj z, List.getD_eq_getElem?_getD, List.getElem?_eq_getElem hj]
    exact ru
  have w := SeqAt.RcAt.tuples (A := X.A) (s := s) (e := fun j => eqV (.int (ns.getD j 0)) (.int (ms.getD j 0))) (show s.heap.IsTuple a its.toArray from p1) (show s.heap.IsTuple b its2.toArray from p2) hu (fun j h1 h2 => eqAt_V (at1 r1 j h1) (at1 r2 j h2) rfl rfl)
  rw [l1, l2] at w
  have w' : ((List.range (min ns.length ms.length)).all (fun j => eqV (.int (ns.getD j 0)) (.int (ms.getD j 0))) && ns.length == ms.length) = decide (ns = ms) := all_eq_ints ns ms
  rw [w'] at w
  exact w _ _ _ _ (show EP X pins σ Q (.bool (decide (ns = ms))) s from ⟨.bl _, H, I, rfl, q⟩)
end
section
variable {k : Nat} {fr : List Nat} {g : TG} {tt : TT} {te : TE} {σ : St} {Q : VK} {D : Addr} {H : Hp}
theorem comp_zip {K : PySem.W.Frag} {a b : Addr} {xs ws : List V} (hlen : xs.length = ws.length) (Pv : Nat → List V → Hp → Prop) (h0 : Pv 0 [] (upd H D (.lst []))) (hd : ∀ i ys H, Pv i ys H → H D = some (.lst ys)) (hl : ∀ i ys H, i ≤ xs.length → Pv i ys H → SqT K H a xs ∧ SqT K H b ws)
    (hs : ∀ i x y p ys H, xs[i]? = some x → ws[i]? = some y → Pv i ys H → H p = none → ys.length < sizeLine ∧ Turns k fr g tt te σ D ys (Pv (i + 1)) (.ref p) (upd H p (.tup [x, y]))) (hz : ∀ i ys H, i < xs.length → Pv i ys H → ys.length < sizeLine) (he : ∀ ys H, Pv xs.length ys H → Q (.ref D) H) : Comps k fr g tt te σ Q (Itz K a b) H D := by
  refine ⟨fun i m ys H => i + m = xs.length ∧ Pv i ys H, ⟨xs.length, by omega, h0⟩, ?_⟩
  rintro i m ys H2 ⟨e, p⟩
  obtain ⟨q1, q2⟩ := hl i ys H2 (by omega) p
  refine ⟨hd i ys H2 p, ?_⟩
  by_cases hi : i < xs.length
  · have ex : xs[i]? = some xs[i] := List.getElem?_eq_getElem hi
    have ey : ws[i]? = some ws[i] := List.getElem?_eq_getElem (by omega)
    refine .inr ⟨⟨xs, ws, _, _, q1, q2, ex, ey⟩, hz i ys H2 hi p, Pv (i + 1), fun ys' H' p' => ⟨m - 1, by omega, by omega, p'⟩, ?_⟩
    rintro x H3 ⟨pp, x', y', fp, rfl, eu, ev, rfl⟩
    exact (hs i x' y' pp ys H2 (eu xs q1) (ev ws q2) p fp).2
  · have e' : i = xs.length := by omega
    subst e'
    exact .inl ⟨⟨xs, ws, q1, q2, .inl (Nat.le_refl _)⟩, he ys H2 p⟩
end
end L2


set_option Elab.async false
/-! letters, as a list of lists: how many, how long, in order -/
namespace S1
def longer (acc : List (List Int)) (c : Nat) : List (List Int) := acc.flatMap fun l => (List.range c).map fun (v : Nat) => l ++ [(v : Int)]
def lettersFrom (acc : List (List Int)) (cs : List Nat) : List (List Int) := cs.foldl longer acc
def mul (cs : List Nat) : Nat := cs.foldl (· * ·) 1

theorem longer_snoc (acc : List (List Int)) (l : List Int) (c : Nat) : longer (acc ++ [l]) c = longer acc c ++ (List.range c).map fun (v : Nat) => l ++ [(v : Int)] := by
  simp [longer, List.flatMap_append]
theorem longer_length (acc : List (List Int)) (c : Nat) : (longer acc c).length = acc.length * c := by
  induction acc with
  | nil => simp [longer]
  | cons l r ih =>
    have e : longer (l :: r) c = ((List.range c).map fun (v : Nat) => l ++ [(v : Int)]) ++ longer r c := by simp [longer, List.flatMap_cons]
    rw [e, List.length_append, ih, List.length_map, List.length_range, List.length_cons, Nat.succ_mul, Nat.add_comm]
theorem from_length : ∀ (cs : List Nat) (acc : List (List Int)), (lettersFrom acc cs).length = cs.foldl (· * ·) acc.length
  | [], _ => rfl
  | c :: r, acc => by
    show (lettersFrom (longer acc c) r).length = r.foldl (· * ·) (acc.length * c)
    rw [from_length r, longer_length]

/-- what all letters of n fields have -/
structure Good (cs : List Nat) (ls : List (List Int)) : Prop where
  wide : ∀ l ∈ ls, l.length = cs.length
  rng : ∀ l ∈ ls, ∀ (i : Nat) (v : Int), l[i]? = some v → ∃ c, cs[i]? = some c ∧ 0 ≤ v ∧ v < (c : Int)
  ord : ls.Pairwise fun a b => HT.lexLt a b = true

theorem lex_snoc : ∀ (a : List Int) (x y : Int), x < y → HT.lexLt (a ++ [x]) (a ++ [y]) = true
  | [], x, y, h => by
    show HT.lexLt [x] [y] = true
    rw [HT.lexLt_cons, if_neg (by omega)]
    exact decide_eq_true h
  | z :: r, x, y, h => by
    show HT.lexLt (z :: (r ++ [x])) (z :: (r ++ [y])) = true
    rw [HT.lexLt_cons, if_pos rfl]
    exact lex_snoc r x y h
theorem lex_app : ∀ (a b : List Int) (x y : Int), a.length = b.length → HT.lexLt a b = true → HT.lexLt (a ++ [x]) (b ++ [y]) = true
  | [], [], _, _, _, h => by cases h
  | [], _ :: _, _, _, e, _ => by cases e
  | _ :: _, [], _, _, e, _ => by cases e
  | p :: r, q :: t, x, y, e, h => by
    have e' : r.length = t.length := by simpa using e
    show HT.lexLt (p :: (r ++ [x])) (q :: (t ++ [y])) = true
    rw [HT.lexLt_cons] at h ⊢
    by_cases c : p = q
    · rw [if_pos c] at h ⊢
      exact lex_app r t x y e' h
    · rw [if_neg c] at h ⊢
      exact h

theorem mem_longer {acc : List (List Int)} {c : Nat} {m : List Int} (h : m ∈ longer acc c) : ∃ l ∈ acc, ∃ v : Nat, v < c ∧ m = l ++ [(v : Int)] := by
  obtain ⟨l, hl, h⟩ := List.mem_flatMap.mp h
  obtain ⟨v, hv, e⟩ := List.mem_map.mp h
  exact ⟨l, hl, v, List.mem_range.mp hv, e.symm⟩

theorem Good.longer {cs : List Nat} {ls : List (List Int)} (g : Good cs ls) (c : Nat) : Good (cs ++ [c]) (longer ls c) where
  wide := fun m hm => by
    obtain ⟨l, hl, v, hv, rfl⟩ := mem_longer hm
    rw [List.length_append, List.length_append, g.wide l hl]; rfl
  rng := fun m hm i v hi => by
    obtain ⟨l, hl, w, hw, rfl⟩ := mem_longer hm
    have wl := g.wide l hl
    rcases Nat.lt_trichotomy i l.length with q | q | q
    · rw [List.getElem?_append_left q] at hi
      obtain ⟨c', hc, r⟩ := g.rng l hl i v hi
      exact ⟨c', by rw [List.getElem?_append_left (by omega)]; exact hc, r⟩
    · subst q
      have e : v = (w : Int) := by simpa using hi.symm
      refine ⟨c, by rw [wl]; simp, by omega, by omega⟩
    · rw [List.getElem?_eq_none (by rw [List.length_append, List.length_singleton]; omega)] at hi
      cases hi
  ord := by
    have w := g.wide
    have o := g.ord
    clear g
    induction ls with
    | nil => exact List.Pairwise.nil
    | cons l r ih =>
      have e : S1.longer (l :: r) c = ((List.range c).map fun (v : Nat) => l ++ [(v : Int)]) ++ S1.longer r c := by simp [S1.longer, List.flatMap_cons]
      obtain ⟨o1, o2⟩ := List.pairwise_cons.mp o
      rw [e, List.pairwise_append]
      refine ⟨?_, ih (fun m hm => w m (List.mem_cons_of_mem _ hm)) o2, ?_⟩
      · rw [List.pairwise_map]
        exact List.Pairwise.imp (R := fun (a b : Nat) => a < b) (fun {a b} h => lex_snoc l (a : Int) (b : Int) (by omega)) List.pairwise_lt_range
      · intro a ha b hb
        obtain ⟨v, hv, rfl⟩ := List.mem_map.mp ha
        obtain ⟨m, hm, u, hu, rfl⟩ := mem_longer hb
        exact lex_app l m _ _ (by rw [w l List.mem_cons_self, w m (List.mem_cons_of_mem _ hm)]) (o1 m hm)
theorem Good.start : Good [] [[]] where
  wide := fun l hl => by rw [List.mem_singleton.mp hl]; rfl
  rng := fun l hl i v hi => by rw [List.mem_singleton.mp hl] at hi; cases i <;> cases hi
  ord := List.pairwise_singleton _ _
theorem Good.all : ∀ (r cs : List Nat) {ls : List (List Int)}, Good cs ls → Good (cs ++ r) (lettersFrom ls r)
  | [], cs, ls, g => by rw [List.append_nil]; exact g
  | c :: r, cs, ls, g => by
    have q := Good.all r (cs ++ [c]) (g.longer c)
    rw [List.append_assoc] at q
    exact q
def letters (cs : List Nat) : List (List Int) := lettersFrom [[]] cs
theorem good_letters (cs : List Nat) : Good cs (letters cs) := Good.all cs [] Good.start
theorem letters_length (cs : List Nat) : (letters cs).length = mul cs := from_length cs [[]]
theorem letters_snoc (cs : List Nat) (c : Nat) : letters (cs ++ [c]) = longer (letters cs) c := by
  simp [letters, lettersFrom, List.foldl_append]
theorem mul_from : ∀ (cs : List Nat) (k : Nat), (∀ c ∈ cs, c ≤ 6) → cs.foldl (· * ·) k ≤ k * 6 ^ cs.length
  | [], k, _ => by simp
  | c :: r, k, h => by
    have q := mul_from r (k * c) fun d hd => h d (List.mem_cons_of_mem _ hd)
    have hc := h c List.mem_cons_self
    show r.foldl (· * ·) (k * c) ≤ k * 6 ^ (r.length + 1)
    refine Nat.le_trans q ?_
    rw [Nat.pow_succ, Nat.mul_assoc, Nat.mul_comm (6 ^ r.length) 6]
    exact Nat.mul_le_mul_left _ (Nat.mul_le_mul_right _ hc)
theorem mul_le (cs : List Nat) (h : ∀ c ∈ cs, c ≤ 6) : mul cs ≤ 6 ^ cs.length := by
  have q := mul_from cs 1 h
  rwa [Nat.one_mul] at q
end S1


set_option Elab.async false
set_option maxRecDepth 100000
set_option maxHeartbeats 4000000
/-! k62, first part: the draws. A purse is a list of two numbers, nought or more; a take leaves such a one. -/
namespace S62
open PySem L2
def top (i : Nat) : Stmt := PySem.Challenge.pw_switchsay_k62_any_table.main.body.getD i (.Pass ⟨0, 0, 0, 0⟩)
abbrev sBy : Stmt := top 1
abbrev sMatch : Stmt := top 2
abbrev sPut : Stmt := top 3
abbrev sCell : Stmt := top 5
abbrev sPurse : Stmt := top 6
abbrev sTake : Stmt := top 7
abbrev sSpeech : Stmt := top 8
abbrev sLett : Stmt := top 9
abbrev sPart : Stmt := top 10
abbrev sRow : Stmt := top 11
abbrev sDue : Stmt := top 12
abbrev sLaw : Stmt := top 13

theorem small {n : Nat} (h : n ≤ 1000) : n ≤ sizeLine := Nat.le_of_lt (small1000 h)
theorem same_new {H : Hp} {p : Addr} (h : H p = none) (o : HO) : Same H (upd H p o) := fun b u q => by rw [upd_ne (ne_of_none q h)]; exact q
theorem Same.put {H G : Hp} {r : Addr} (e : Same H G) (h : H r = none) (o : HO) : Same H (upd G r o) := fun b u q => by rw [upd_ne (ne_of_none q h)]; exact e b u q
/-- all but r is as it was -/
def Keep (r : Addr) (H H' : Hp) : Prop := ∀ b o, b ≠ r → H b = some o → H' b = some o
theorem Same.keep {H G G' : Hp} {r : Addr} (e : Same H G) (h : H r = none) (k : Keep r G G') : Same H G' := fun b u q => k b u (ne_of_none q h) (e b u q)
theorem emod_rng (a : Int) {m : Int} (h : 0 < m) : 0 ≤ a % m ∧ a % m < m := ⟨Int.emod_nonneg _ (Int.ne_of_gt h), Int.emod_lt_of_pos _ h⟩
theorem menu {ns : List Int} {v : Int} (h0 : 0 ≤ v) (h1 : v < (ns.length : Int)) : ∃ x ∈ ns, atI (ns.map V.int) v = some (.int x) := by
  have hk : v.toNat < ns.length := by omega
  have ek : v = ((v.toNat : Nat) : Int) := by omega
  have q : atI (ns.map V.int) ((v.toNat : Nat) : Int) = some (.int ns[v.toNat]) := atI_nat (by rw [List.getElem?_map, List.getElem?_eq_getElem hk] <;> rfl)
  rw [← ek] at q
  exact ⟨_, List.getElem_mem hk, q⟩

def pairD (w : Str × Nat) : Da := .tup [.flat (.str w.1), .flat (.int (w.2 : Int))]
def speechD (ws : List (Str × Nat)) : Da := .tup (ws.map pairD)
structure SpeechOk (ws : List (Str × Nat)) : Prop where
  lo : 1 ≤ ws.length
  hi : ws.length ≤ 3
  cnt : ∀ w ∈ ws, 1 ≤ w.2 ∧ w.2 ≤ 6

def spPurse : Sp := fun vs H Q _ => ∃ n : Int, vs = [.int n] ∧ ∀ (r : Addr) (a b : Int), H r = none → 0 ≤ a → 0 ≤ b → Q (.ref r) (upd H r (.lst [.int a, .int b]))
def spTake : Sp := fun vs H Q _ => ∃ (r : Addr) (a b m : Int), vs = [.ref r, .int m] ∧ H r = some (.lst [.int a, .int b]) ∧ 0 ≤ a ∧ 0 ≤ b ∧ 0 < m ∧ m < 1073741824 ∧
  ∀ (v a' b' : Int) (H' : Hp), 0 ≤ v → v < m → 0 ≤ a' → 0 ≤ b' → H' r = some (.lst [.int a', .int b']) → Keep r H H' → Q (.int v) H'
def spSpeech (K : PySem.W.Frag) : Sp := fun vs H Q _ => ∃ (n l : Int), vs = [.int n, .int l] ∧ 1 ≤ l ∧ l ≤ 3 ∧
  ∀ (sp : Addr) (ws : List (Str × Nat)) (H' : Hp), Same H H' → Hold K H' (.ref sp) (speechD ws) → SpeechOk ws → Q (.ref sp) H'

section
variable {P : Program} {w : World} {K : PySem.W.Frag} {mg : Str → Option Value} {base : Heap}
theorem scPu : FnScope ["_law_cell_here", "_law_number", "_law_found", "_law_k"] ["_law_cell_here"] (defScope sPurse) := ⟨rfl, rfl, rfl, by decide +kernel, rfl, by decide +kernel, by decide +kernel⟩
theorem ok_purse {f : Addr} {fd : FuncData} (F : Fun K "_law_purse" "_law_purse" sPurse f fd) (mr : mg "range" = none) (ma : mg "abs" = none) : FnOk P w K mg base CX0 1 f fd ["_law_cell_here"] spPurse := by
  refine F.ok scPu (fun vs H Q E h => ?_) (fun cdv A outer s H vs Q E hr h => ?_)
  · obtain ⟨n, rfl, _⟩ := h
    rfl
  obtain ⟨n, rfl, q⟩ := h
  refine ⟨_, pss_cons (ps_set (i := 1) scPu.nd rfl (Or.inl rfl) (pe_op op_mod (pv 0) pe_int))
    (pss_cons (ps_set (i := 2) scPu.nd rfl (Or.inl rfl) pe_int)
    (pss_cons (ps_for PassesOwn.never rfl (pi_range1 rfl mr (pa_cons pe_int pa_nil)) (pg_name (i := 3) scPu.nd rfl (Or.inl rfl))
      (pss_cons (ps_set (i := 1) scPu.nd rfl (Or.inl rfl) (pe_op op_mod (pe_op op_add (pe_op op_add (pe_op op_add (pe_op op_mul (pv 1) (pv 1)) (pe_op op_mul (pe_op op_mul pe_int (pv 3)) (pv 3))) (pv 3)) pe_int) pe_int))
      (pss_one (ps_set (i := 2) scPu.nd rfl (Or.inl rfl) (pe_op op_add (pe_op op_mul (pv 2) pe_int) (pe_op op_mod (pe_op op_mul (pv 1) (pv 1)) pe_int))))))
    (pss_cons (ps_if (pt_cmpR op_eq (pe_op op_mod (pv 0) pe_int) pe_int (nomark _))
      (pss_one (ps_ret (pe_lst (pa_cons (pe_op op_fdiv (pe_callB call_abs rfl ma (by kernel_rfl) (pa_cons (pv 0) pa_nil)) pe_int) (pa_cons (pv 2) pa_nil))))) pss_nil)
    (pss_one (ps_ret (pe_lst (pa_cons pe_int (pa_cons (pv 2) pa_nil)))))))), ?_⟩
  have r0 := emod_rng n (m := 2147483647) (by decide)
  refine ⟨_, rfl, _, _, rfl, rfl, (by show (0 : Int) < 2147483647; decide), 16, rfl, by decide, by decide,
    for_range (n := 16) (fun i σ G => ∃ (x y : Int) (v : Option V), σ = [some (.int n), some (.int x), some (.int y), v] ∧ G = H ∧ 0 ≤ x ∧ x < 2147483647 ∧ 0 ≤ y)
      ⟨_, _, _, rfl, rfl, r0.1, r0.2, by decide⟩ ?_ ?_⟩
  · rintro i σ G hi ⟨x, y, v, rfl, rfl, h1, h2, h3⟩
    refine ⟨_, rfl, _, rfl, _, _, rfl, rfl, .inl ⟨by omega, by omega⟩, _, rfl, _, _, rfl, rfl, .inl ⟨by decide, by decide⟩, _, rfl, _, _, rfl, rfl, .inr ⟨by omega, by omega⟩, _, _, rfl, rfl, _, rfl, _, _, rfl, rfl, _, _, rfl, rfl, _, _, rfl, rfl, (by show (0 : Int) < 2147483629; decide), ?_⟩
    have r1 := emod_rng (x * x + 48271 * (0 + (i : Int)) * (0 + (i : Int)) + (0 + (i : Int)) + 3) (m := 2147483629) (by decide)
    have r2 := emod_rng ((x * x + 48271 * (0 + (i : Int)) * (0 + (i : Int)) + (0 + (i : Int)) + 3) % 2147483629 * ((x * x + 48271 * (0 + (i : Int)) * (0 + (i : Int)) + (0 + (i : Int)) + 3) % 2147483629)) (m := 2147483587) (by decide)
    refine ⟨_, rfl, _, _, rfl, rfl, .inr ⟨by decide, by decide⟩, _, rfl, _, rfl, _, _, rfl, rfl, .inl ⟨Int.lt_of_lt_of_le (by decide) r1.1, Int.lt_trans r1.2 (by decide)⟩, _, _, rfl, rfl, (by show (0 : Int) < 2147483587; decide), _, _, rfl, rfl, ?_⟩
    refine ⟨_, _, _, rfl, rfl, r1.1, Int.lt_trans r1.2 (by decide), ?_⟩
    exact Int.add_nonneg (Int.mul_nonneg h3 (by decide)) r2.1
  · rintro σ G ⟨x, y, v, rfl, rfl, h1, h2, h3⟩
    refine ⟨_, rfl, _, _, rfl, rfl, (by show (0 : Int) < 2; decide), rfl, _, rfl, ?_⟩
    refine ite2 (fun _ => ?_) (fun _ => ?_)
    · refine ⟨_, rfl, _, rfl, _, _, rfl, rfl, ⟨by decide, by decide⟩, _, rfl, (by show 2 ≤ sizeLine; decide), fun r hr' => ?_⟩
      refine q r _ _ hr' ?_ h3
      have z : 0 ≤ (if n < 0 then -n else n) := by split <;> omega
      omega
    · refine ⟨_, rfl, (by show 2 ≤ sizeLine; decide), fun r hr' => ?_⟩
      exact q r _ _ hr' (Int.le_refl 0) h3

theorem scTa : FnScope ["_law_purse_here", "_law_many", "_law_at", "_law_found"] ["_law_purse_here", "_law_many"] (defScope sTake) := ⟨rfl, rfl, rfl, by decide +kernel, rfl, by decide +kernel, by decide +kernel⟩
theorem ok_take {f : Addr} {fd : FuncData} (F : Fun K "_law_take" "_law_take" sTake f fd) (mi : mg "int" = none) : FnOk P w K mg base CX0 1 f fd ["_law_purse_here", "_law_many"] spTake := by
  refine F.ok scTa (fun vs H Q E h => ?_) (fun cdv A outer s H vs Q E hr h => ?_)
  · obtain ⟨r, a, b, m, rfl, _⟩ := h
    rfl
  obtain ⟨r, a, b, m, rfl, hl, ha, hb, m0, m1, q⟩ := h
  refine ⟨_, pss_cons (ps_set (i := 2) scTa.nd rfl (Or.inl rfl) (pe_callTy call_int1 rfl mi (by kernel_rfl) (pa_cons (pe_cmpR op_eq (pe_ix ix_list (pv 0) pe_int (fun _ _ => rfl)) pe_int (nomark _)) pa_nil)))
    (pss_cons (ps_set (i := 3) scTa.nd rfl (Or.inl rfl) (pe_op op_mod (pe_ix ix_list (pv 0) (pv 2) (fun _ _ => rfl)) (pv 1)))
    (pss_cons (ps_asg (pe_op op_fdiv (pe_ix ix_list (pv 0) (pv 2) (fun _ _ => rfl)) (pv 1)) (pg_sub (pv 0) (pv 2) set_list))
    (pss_one (ps_ret (pv 3))))), ?_⟩
  refine ⟨_, rfl, r, _, _, _, rfl, rfl, SqL.of hl, rfl, rfl, .inr ⟨_, rfl, ?_⟩⟩
  have kp : ∀ o, Keep r H (upd H r o) := fun o c u hc e => by rw [upd_ne hc]; exact e
  generalize hk : decide (V.int a = V.int 0) = k
  cases k with
  | true =>
    refine ⟨_, rfl, _, rfl, r, _, _, _, rfl, rfl, SqL.of hl, rfl, _, rfl, _, _, rfl, rfl, m0, ?_⟩
    refine ⟨_, rfl, _, rfl, r, _, _, _, rfl, rfl, SqL.of hl, rfl, _, rfl, _, _, rfl, rfl, ⟨m0, m1⟩, _, rfl, _, rfl, r, _, _, _, rfl, rfl, hl, rfl, _, rfl, ?_⟩
    have r1 := emod_rng b m0
    exact q (b % m) a (b / m) _ r1.1 r1.2 ha (Int.ediv_nonneg hb (Int.le_of_lt m0)) upd_same (kp _)
  | false =>
    refine ⟨_, rfl, _, rfl, r, _, _, _, rfl, rfl, SqL.of hl, rfl, _, rfl, _, _, rfl, rfl, m0, ?_⟩
    refine ⟨_, rfl, _, rfl, r, _, _, _, rfl, rfl, SqL.of hl, rfl, _, rfl, _, _, rfl, rfl, ⟨m0, m1⟩, _, rfl, _, rfl, r, _, _, _, rfl, rfl, hl, rfl, _, rfl, ?_⟩
    have r1 := emod_rng a m0
    exact q (a % m) (a / m) b _ r1.1 r1.2 (Int.ediv_nonneg ha (Int.le_of_lt m0)) hb upd_same (kp _)
end
end S62


set_option Elab.async false
set_option maxRecDepth 100000
set_option maxHeartbeats 4000000
/-! k62, second part: a speech is drawn -/
namespace S62
open PySem L2
section
variable {P : Program} {w : World} {K : PySem.W.Frag} {mg : Str → Option Value} {base : Heap}
theorem scSp : FnScope ["_law_cell_here", "_law_least", "_law_purse_here", "_law_first", "_law_letters_here", "_law_left", "_law_many", "_law_tail", "_law_speech_here", "_law_k", "_law_count"] ["_law_cell_here", "_law_least"] (defScope sSpeech) :=
  ⟨rfl, rfl, rfl, by decide +kernel, rfl, by decide +kernel, by decide +kernel⟩
def abc : Str := "abcdefghijklmnopqrstuvwxyz"
theorem abc_len : abc.cps.toList.length = 26 := by decide +kernel
theorem abc_at {v : Int} (h0 : 0 ≤ v) (h1 : v < 26) : ∃ c, atI abc.cps.toList v = some c := by
  have hk : v.toNat < abc.cps.toList.length := by rw [abc_len]; omega
  have ek : v = ((v.toNat : Nat) : Int) := by omega
  have q : atI abc.cps.toList ((v.toNat : Nat) : Int) = some abc.cps.toList[v.toNat] := atI_nat (List.getElem?_eq_getElem hk)
  rw [← ek] at q
  exact ⟨_, q⟩
theorem ok_speech {f fP fT : Addr} {fd fdP fdT : FuncData} (F : Fun K "_law_speech" "_law_speech" sSpeech f fd)
    (GP : FnOk P w K mg base CX0 1 fP fdP ["_law_cell_here"] spPurse) (bP : Binds K fdP ["_law_cell_here"] []) (kP : PySem.W.keepIn K (.ref fP) = true) (mP : mg "_law_purse" = some (.ref fP))
    (GT : FnOk P w K mg base CX0 1 fT fdT ["_law_purse_here", "_law_many"] spTake) (bT : Binds K fdT ["_law_purse_here", "_law_many"] []) (kT : PySem.W.keepIn K (.ref fT) = true) (mT : mg "_law_take" = some (.ref fT))
    (mr : mg "range" = none) (mx : mg "max" = none) (mn : mg "min" = none) (mt : mg "tuple" = none) : FnOk P w K mg base CX0 2 f fd ["_law_cell_here", "_law_least"] (spSpeech K) := by
  refine F.ok scSp (fun vs H Q E h => ?_) (fun cdv A outer s H vs Q E hr h => ?_)
  · obtain ⟨n, l, rfl, _⟩ := h
    rfl
  obtain ⟨n, l, rfl, l1, l3, q⟩ := h
  refine ⟨_, pss_cons (ps_set (i := 2) scSp.nd rfl (Or.inl rfl) (pe_call GP hr rfl mP kP bP .nil pass0 (pa_cons (pv 0) pa_nil)))
    (pss_cons (ps_set (i := 3) scSp.nd rfl (Or.inl rfl) (pe_call GT hr rfl mT kT bT .nil pass0 (pa_cons (pv 2) (pc_c pe_int pa_nil))))
    (pss_cons (ps_set (i := 4) scSp.nd rfl (Or.inl rfl) pe_str)
    (pss_cons (ps_set (i := 5) scSp.nd rfl (Or.inl rfl) (pe_ix ix_list (pe_lst (pc_c pe_int (pc_c pe_int (pc_c pe_int (pc_c pe_int (pc_c pe_int (pc_c pe_int (pc_c pe_int (pc_c pe_int pa_nil)))))))))
      (pe_call GT hr rfl mT kT bT .nil pass0 (pa_cons (pv 2) (pc_c pe_int pa_nil))) (fun _ _ => rfl)))
    (pss_cons (ps_set (i := 6) scSp.nd rfl (Or.inl rfl) (pe_callB (call_max2 rfl) rfl mx (by kernel_rfl) (pa_cons (pv 1) (pa_cons (pe_op op_add pe_int (pe_call GT hr rfl mT kT bT .nil pass0 (pa_cons (pv 2) (pc_c pe_int pa_nil)))) pa_nil))))
    (pss_cons (ps_set (i := 7) scSp.nd rfl (Or.inl rfl) (pe_slice sl_str pe_str po_none (po_some (pe_call GT hr rfl mT kT bT .nil pass0 (pa_cons (pv 2) (pc_c pe_int pa_nil))))))
    (pss_cons (ps_set (i := 8) scSp.nd rfl (Or.inl rfl) (pe_lst pa_nil))
    (pss_cons (ps_for PassesOwn.never rfl (pi_range1 rfl mr (pa_cons (pv 6) pa_nil)) (pg_name (i := 9) scSp.nd rfl (Or.inl rfl))
      (pss_cons (ps_set (i := 10) scSp.nd rfl (Or.inl rfl) (pe_callB (call_min2 rfl) rfl mn (by kernel_rfl) (pa_cons (pe_ix ix_list (pe_lst (pc_c pe_int (pc_c pe_int (pc_c pe_int (pc_c pe_int (pc_c pe_int (pc_c pe_int pa_nil)))))))
        (pe_call GT hr rfl mT kT bT .nil pass0 (pa_cons (pv 2) (pc_c pe_int pa_nil))) (fun _ _ => rfl)) (pa_cons (pv 5) pa_nil))))
      (pss_cons (ps_set (i := 5) scSp.nd rfl (Or.inl rfl) (pe_op op_fdiv (pv 5) (pv 10)))
      (pss_one (ps_expr (pe_bm PySem.F.plainAttrs_list PySem.F.slot_list_append PySem.F.type_list_append mt_append (pv 8)
        (pa_cons (pe_tup (pa_cons (pe_op op_add_str (pe_ix ix_str (pv 4) (pe_op op_mod (pe_op op_add (pv 3) (pe_op op_mul pe_int (pv 9))) pe_int) (fun _ _ => rfl)) (pv 7)) (pa_cons (pv 10) pa_nil))) pa_nil)))))))
    (pss_one (ps_ret (pe_callTy call_tuple_of rfl mt (by kernel_rfl) (pa_cons (pv 8) pa_nil))))))))))), ?_⟩
  -- the purse
  refine ⟨_, rfl, n, rfl, fun r a0 b0 hr0 a0' b0' => ?_⟩
  -- first
  refine ⟨_, rfl, r, a0, b0, 26, rfl, upd_same, a0', b0', by decide, by decide, fun fi a1 b1 G1 fi0 fi1 a1' b1' g1 k1 => ?_⟩
  have s1 : Same H G1 := Same.keep (same_new hr0 _) hr0 k1
  -- left
  refine ⟨(by show 8 ≤ sizeLine; decide), fun p2 hp2 => ?_⟩
  have rp2 : r ≠ p2 := ne_of_none g1 hp2
  refine ⟨_, rfl, r, a1, b1, 8, rfl, (by rw [upd_ne rp2]; exact g1), a1', b1', by decide, by decide, fun v2 a2 b2 G2 v20 v21 a2' b2' g2 k2 => ?_⟩
  obtain ⟨lf, lfm, lfe⟩ := menu (ns := [8, 8, 6, 8, 12, 8, 4, 24]) v20 v21
  have s2 : Same H G2 := Same.keep (Same.trans s1 (same_new hp2 _)) hr0 k2
  refine ⟨p2, _, _, _, rfl, rfl, SqL.of (k2 _ _ rp2.symm upd_same), lfe, ?_⟩
  have lf1 : 1 ≤ lf := by
    simp only [List.mem_cons, List.not_mem_nil, or_false] at lfm
    omega
  -- many
  refine ⟨_, rfl, _, rfl, r, a2, b2, 3, rfl, g2, a2', b2', by decide, by decide, fun v3 a3 b3 G3 v30 v31 a3' b3' g3 k3 => ?_⟩
  have s3 : Same H G3 := Same.keep s2 hr0 k3
  refine ⟨_, _, rfl, rfl, _, _, rfl, ?_⟩
  have hM : ∃ M : Int, (if 1 + v3 > l then 1 + v3 else l) = M ∧ 1 ≤ M ∧ M ≤ 3 := ⟨_, rfl, by split <;> omega, by split <;> omega⟩
  obtain ⟨M, eM, M1, M3⟩ := hM
  rw [eM]
  -- tail
  refine ⟨_, rfl, r, a3, b3, 8, rfl, g3, a3', b3', by decide, by decide, fun v4 a4 b4 G4 v40 v41 a4' b4' g4 k4 => ?_⟩
  have s4 : Same H G4 := Same.keep s3 hr0 k4
  refine ⟨_, rfl, _, rfl, (by decide +kernel), ?_⟩
  obtain ⟨tl, etl, tl7⟩ : ∃ tl : Str, Txt.slice ("abcdefg" : Str) none (some v4) = tl ∧ tl.length ≤ 7 := ⟨_, rfl, Nat.le_trans (PySem.Txt.slice_le ("abcdefg" : Str) none (some v4)) (by decide +kernel)⟩
  rw [etl]
  -- the list
  refine ⟨(by show 0 ≤ sizeLine; decide), fun u hu => ?_⟩
  have ru : r ≠ u := ne_of_none g4 hu
  have hu0 : H u = none := Same.free s4 hu
  refine ⟨_, rfl, M, rfl, by omega, by omega, for_range (n := M.toNat) (fun i σ G => ∃ (lf a b : Int) (ws : List (Str × Nat)) (xs : List V) (v9 v10 : Option V),
    σ = [some (.int n), some (.int l), some (.ref r), some (.int fi), some (.str abc), some (.int lf), some (.int M), some (.str tl), some (.ref u), v9, v10] ∧ Same H G ∧ G r = some (.lst [.int a, .int b]) ∧ 0 ≤ a ∧ 0 ≤ b ∧ 1 ≤ lf ∧
    G u = some (.lst xs) ∧ Holds K G xs (ws.map pairD) ∧ ws.length = i ∧ ∀ w ∈ ws, 1 ≤ w.2 ∧ w.2 ≤ 6) ?_ ?_ ?_⟩
  · exact ⟨lf, a4, b4, [], [], none, none, rfl, Same.put s4 hu0 _, (by rw [upd_ne ru]; exact g4), a4', b4', lf1, upd_same, .nil, rfl, fun w hw => nomatch hw⟩
  · rintro i σ G hi ⟨lf, a, b, ws, xs, v9, v10, rfl, sG, gr, ha, hb, hlf, gu, hd, wl, wc⟩
    refine ⟨(by show 6 ≤ sizeLine; decide), fun p hp => ?_⟩
    have rp : r ≠ p := ne_of_none gr hp
    have up : u ≠ p := ne_of_none gu hp
    refine ⟨_, rfl, r, a, b, 6, rfl, (by rw [upd_ne rp]; exact gr), ha, hb, by decide, by decide, fun v a' b' G' v0 v1 ha' hb' g' k' => ?_⟩
    obtain ⟨c, cm, ce⟩ := menu (ns := [2, 3, 4, 1, 6, 5]) v0 v1
    have sG' : Same H G' := Same.keep (Same.trans sG (same_new hp _)) hr0 k'
    refine ⟨p, _, _, _, rfl, rfl, SqL.of (k' _ _ rp.symm upd_same), ce, _, rfl, _, _, rfl, ?_⟩
    have hc : ∃ k : Nat, (if lf < c then lf else c) = (k : Int) ∧ 1 ≤ k ∧ k ≤ 6 ∧ (k : Int) ≤ lf := by
      simp only [List.mem_cons, List.not_mem_nil, or_false] at cm
      refine ⟨(if lf < c then lf else c).toNat, ?_, ?_, ?_, ?_⟩ <;> split <;> omega
    obtain ⟨k, ek, k1', k6', klf⟩ := hc
    rw [ek]
    refine ⟨_, rfl, _, rfl, _, _, rfl, rfl, ⟨by omega, by omega⟩, ?_⟩
    have ur : u ≠ r := ru.symm
    have gu' : G' u = some (.lst xs) := k' _ _ ur (by rw [upd_ne up]; exact gu)
    have r26 := emod_rng (fi + 9 * (0 + (i : Int))) (m := 26) (by decide)
    obtain ⟨ch, ech⟩ := abc_at r26.1 r26.2
    refine ⟨_, rfl, .inl ⟨rfl, _, SqL.of gu'⟩, _, rfl, _, rfl, _, rfl, _, _, rfl, rfl, .inl ⟨by decide, by decide⟩, _, _, rfl, rfl, _, _, rfl, rfl, (by show (0 : Int) < 26; decide), _, _, ch, rfl, rfl, (by decide +kernel), ech, _, rfl, _, _, rfl, rfl, ?_, _, rfl, (by show 2 ≤ sizeLine; decide), fun t ht => ?_⟩
    · exact small (by show 1 + tl.length ≤ 1000; omega)
    have ut : u ≠ t := ne_of_none gu' ht
    have ht0 : H t = none := Same.free sG' ht
    refine ⟨u, xs, .ref t, rfl, rfl, (by rw [upd_ne ut]; exact gu'), ?_, ?_⟩
    · have z := hd.length
      rw [List.length_map] at z
      exact small1000 (by omega)
    have rt : r ≠ t := ne_of_none g' ht
    have tG : Tups G G' := (Tups.of (same_new hp _)).trans (Tups.but (u := r) (by rw [upd_ne rp]; exact gr) k')
    have tN : Tups G (upd (upd G' t (.tup [.str (⟨#[ch]⟩ ++ tl), .int (k : Int)])) u (.lst (xs ++ [.ref t]))) := (tG.trans (Tups.of (same_new ht _))).trans (Tups.put (by rw [upd_ne ut]; exact gu') _)
    refine ⟨lf / (k : Int), a', b', ws ++ [(⟨#[ch]⟩ ++ tl, k)], xs ++ [.ref t], _, _, rfl, Same.put (Same.put sG' ht0 _) hu0 _, (by rw [upd_ne ur.symm, upd_ne rt]; exact g'), ha', hb', ?_, upd_same, ?_, (by rw [List.length_append, wl]; rfl), fun x hx => ?_⟩
    · exact (Int.le_ediv_iff_mul_le (by omega)).mpr (by omega)
    · rw [List.map_append]
      refine Holds.append (Holds.stay tN (fixL_map (fun _ => rfl) ws) hd) (.one (.tup (SqT.of ?_) (.cons (.flat rfl) (.cons (.flat rfl) .nil))))
      rw [upd_ne ut.symm, upd_same]
    · rcases List.mem_append.mp hx with z | z
      · exact wc x z
      · rw [List.mem_singleton.mp z]
        exact ⟨k1', k6'⟩
  · rintro σ G ⟨lf, a, b, ws, xs, v9, v10, rfl, sG, gr, ha, hb, hlf, gu, hd, wl, wc⟩
    refine ⟨_, rfl, u, xs, rfl, .inl ⟨SqL.of gu, fun t ht => ?_⟩⟩
    exact q t ws _ (Same.put sG (Same.free sG ht) _) (.tup (SqT.of upd_same) (Holds.mono (same_new ht _) hd)) ⟨by omega, by omega, wc⟩
end
end S62


set_option Elab.async false
set_option maxRecDepth 100000
set_option maxHeartbeats 4000000
/-! k62: tables as data of our own; with_put, matches -/
namespace L2
open PySem PySem.Spec PyProof.Rows
/-- a block that closes over nothing -/
theorem cs_plain {X : Cx} {ns : List Str} {sc : Scope} (kind : sc.kind = .function) (nofree : ∀ y ∈ sc.names, y.2 ≠ .free) (nocell : ∀ y ∈ sc.names, y.2 ≠ .cell) (locs : ∀ y ∈ sc.names, y.2 = .local → sc.names.lookup y.1 = some .local) : CScope X ns [] [] sc [] where
  clos := closureFor_none nofree
  kind := kind
  nocell := nocell
  locs := locs
  sub := fun p hp => nomatch hp
  has := fun y h => by
    have e : (relabel sc X.env).names = sc.names := map_eq_self fun p hp => by
      obtain ⟨n, k⟩ := p
      have z : (k == NameKind.free) = false := by simpa using nofree _ hp
      simp [z]
    rw [e] at h
    rcases h with h | h
    · exact absurd rfl (nocell _ (look_mem h))
    · exact absurd rfl (nofree _ (look_mem h))
  len := rfl
  outs := fun j y e => by cases j <;> cases e
end L2
namespace S62
open PySem L2
/-- a place of a part: a value, or None -/
def cV : Option Int → V
  | none => .non
  | some i => .int i
theorem cV_flat (c : Option Int) : flatV (cV c) = true := by cases c <;> rfl
def parD (p : List (Option Int)) : Da := .tup (p.map fun c => .flat (cV c))
def letD (l : List Int) : Da := .tup (l.map fun v => .flat (.int v))
structure Row where
  m : List (Option Int)
  ds : List (List (Option Int))
def rowD (r : Row) : Da := .tup [parD r.m, .tup (r.ds.map parD)]
structure RowOk (n : Nat) (r : Row) : Prop where
  ml : r.m.length = n
  dl : r.ds.length ≤ 3
  dm : ∀ d ∈ r.ds, d.length = n
theorem parD_fix (p : List (Option Int)) : (parD p).fix = true := by
  unfold parD
  rw [Da.fix]
  exact fixL_map (fun _ => by rw [Da.fix]) p
theorem letD_fix (l : List Int) : (letD l).fix = true := by
  unfold letD
  rw [Da.fix]
  exact fixL_map (fun _ => by rw [Da.fix]) l
theorem rowD_fix (r : Row) : (rowD r).fix = true := by
  unfold rowD
  rw [Da.fix, fixL, fixL, fixL, parD_fix, Da.fix, fixL_map parD_fix]
  rfl
theorem holds_cells {K : PySem.W.Frag} {H : Hp} : ∀ (p : List (Option Int)), Holds K H (p.map cV) (p.map fun c => .flat (cV c))
  | [] => .nil
  | c :: p => .cons (.flat (cV_flat c)) (holds_cells p)
theorem cells_of {K : PySem.W.Frag} {H : Hp} : ∀ {xs : List V} {p : List (Option Int)}, Holds K H xs (p.map fun c => .flat (cV c)) → xs = p.map cV
  | [], [], _ => rfl
  | [], _ :: _, h => by cases h
  | _ :: _, [], h => by cases h
  | x :: xs, c :: p, h => by
    cases h with
    | cons h1 r1 =>
      cases h1.flatI
      rw [cells_of r1]
      rfl
theorem par_open {K : PySem.W.Frag} {H : Hp} {x : V} {p : List (Option Int)} (h : Hold K H x (parD p)) : ∃ a, x = .ref a ∧ SqT K H a (p.map cV) := by
  obtain ⟨a, xs, rfl, ha, hx⟩ := Hold.tupI h
  rw [cells_of hx] at ha
  exact ⟨a, rfl, ha⟩
theorem par_at {K : PySem.W.Frag} {H : Hp} {a : Addr} {p : List (Option Int)} (h : SqT K H a (p.map cV)) : Hold K H (.ref a) (parD p) := .tup h (holds_cells p)
theorem let_open {K : PySem.W.Frag} {H : Hp} {x : V} {l : List Int} (h : Hold K H x (letD l)) : ∃ a, x = .ref a ∧ SqT K H a (l.map V.int) := by
  obtain ⟨a, xs, rfl, ha, hx⟩ := Hold.tupI h
  rw [hx.ints] at ha
  exact ⟨a, rfl, ha⟩
theorem let_at {K : PySem.W.Frag} {H : Hp} {a : Addr} {l : List Int} (h : SqT K H a (l.map V.int)) : Hold K H (.ref a) (letD l) := .tup h (holds_ints l)
/-- a letter with a part put into it -/
def put (l : List Int) (p : List (Option Int)) : List Int := (l.zip p).map fun x => x.2.getD x.1
theorem put_len {l : List Int} {p : List (Option Int)} (h : l.length = p.length) : (put l p).length = l.length := by
  unfold put
  rw [List.length_map, List.length_zip, h, Nat.min_self]
def spPut (K : PySem.W.Frag) : Sp := fun vs H Q _ => ∃ (a b : Addr) (l : List Int) (p : List (Option Int)), vs = [.ref a, .ref b] ∧ SqT K H a (l.map V.int) ∧ SqT K H b (p.map cV) ∧ l.length = p.length ∧ l.length ≤ 100 ∧
  ∀ (r : Addr) (H' : Hp), Same H H' → H r = none → H' r = some (.tup ((put l p).map V.int)) → Q (.ref r) H'
def spMatch (K : PySem.W.Frag) : Sp := fun vs H Q _ => ∃ (a b : Addr) (l : List Int) (p : List (Option Int)), vs = [.ref b, .ref a] ∧ SqT K H a (l.map V.int) ∧ SqT K H b (p.map cV) ∧ l.length = p.length ∧ l.length ≤ 100 ∧
  ∀ (H' : Hp), Same H H' → Q (.bl (decide (put l p = l))) H'
def scWp : Scope := { kind := .function, names := [(".0", .local), ("own", .local), ("value", .local)], isGenerator := false, isCoroutine := false, more := [] }
section
variable {P : Program} {w : World} {K : PySem.W.Frag} {mg : Str → Option Value} {base : Heap}
theorem csWp {X : Cx} : CScope X ["own", "value"] [] [] scWp [] := cs_plain rfl (by decide +kernel) (by decide +kernel) (by decide +kernel)
theorem pgWp {X : Cx} {C s H fp} {cl : List (Str × Addr)} {k : Nat} {p1 p2 p3 : Pos} (hc : X.calm = true) : PG (cxC X ((["own", "value"] : List Str) ++ ([] : List Str)) scWp cl C s H fp) (.Tuple [.Name "own" p1, .Name "value" p2] k p3) (gTup X.K 2 (gCons (gName 0) (gCons (gName 1) gNil))) := by
  have nd : (cxC X ((["own", "value"] : List Str) ++ ([] : List Str)) scWp cl C s H fp).N.Nodup := by show (["own", "value"] : List Str).Nodup; decide +kernel
  exact pg_tup hc (pgs_cons (pg_name (i := 0) nd rfl (Or.inl rfl) (.inr rfl)) (pgs_cons (pg_name (i := 1) nd rfl (Or.inl rfl) (.inr rfl)) pgs_nil))
theorem scWi : FnScope ["letter", "values"] ["letter", "values"] (defScope sPut) := ⟨rfl, rfl, rfl, by decide +kernel, rfl, by decide +kernel, by decide +kernel⟩
theorem ok_put {f : Addr} {fd : FuncData} (F : Fun K "with_put" "with_put" sPut f fd) (mt : mg "tuple" = none) (mz : mg "zip" = none) : FnOk P w K mg base CX0 1 f fd ["letter", "values"] (spPut K) := by
  refine F.ok scWi (fun vs H Q E h => ?_) (fun cdv A outer s H vs Q E hr h => ?_)
  · obtain ⟨a, b, l, p, rfl, _⟩ := h
    rfl
  obtain ⟨a, b, l, p, rfl, ha, hb, hlen, h100, q⟩ := h
  refine ⟨_, pss_one (ps_ret (pe_callTy call_tuple_of rfl mt (by kernel_rfl) (pa_cons (pe_comp (ns := ["own", "value"]) (ys := []) (sc := scWp) csWp rfl (pi_zip rfl mz (pa_cons (pv 0) (pa_cons (pv 1) pa_nil)))
    (fun C s H fp => pgWp rfl) (fun C s H fp => pts_nil) (fun C s H fp => pe_ifExp (pt_cmp (pc_isN (pv 1))) (pv 0) (pv 1))) pa_nil))), ?_⟩
  refine ⟨_, rfl, _, rfl, a, b, _, _, rfl, ha, hb, fun D hD => ?_⟩
  have pl := put_len hlen
  refine comp_zip (K := K) (a := a) (b := b) (xs := l.map V.int) (ws := p.map cV) (by simpa using hlen) (fun i ys G => Same H G ∧ G D = some (.lst ys) ∧ ys = ((put l p).take i).map V.int) ⟨same_new hD _, upd_same, rfl⟩ (fun i ys G z => z.2.1) (fun i ys G _ z => ⟨ha.same z.1, hb.same z.1⟩) ?_ ?_ ?_
  · rintro i x y t ys G hx hy ⟨sG, gD, rfl⟩ ht
    rw [List.getElem?_map] at hx hy
    obtain ⟨o, eo, rfl⟩ := Option.map_eq_some_iff.mp hx
    obtain ⟨c, ec, rfl⟩ := Option.map_eq_some_iff.mp hy
    have hD0 : H D = none := hD
    have ep : (put l p)[i]? = some (c.getD o) := by
      unfold put
      rw [List.getElem?_map, (List.getElem?_zip_eq_some (z := (o, c))).mpr ⟨eo, ec⟩]
      rfl
    have Dt : D ≠ t := ne_of_none gD ht
    have ht0 : H t = none := Same.free sG ht
    refine ⟨small1000 (by rw [List.length_map, List.length_take]; omega), t, _, rfl, SqT.of upd_same, rfl, _, _, rfl, _, _, rfl, rfl, ⟨[some _, some _], rfl, rfl⟩, ?_⟩
    refine ⟨_, rfl, _, rfl, ?_⟩
    have fin : ∀ v : V, v = .int (c.getD o) → upd G t (.tup [.int o, cV c]) D = some (.lst (((put l p).take i).map V.int)) ∧ Same H (upd (upd G t (.tup [.int o, cV c])) D (.lst (((put l p).take i).map V.int ++ [v]))) ∧
        upd (upd G t (.tup [.int o, cV c])) D (.lst (((put l p).take i).map V.int ++ [v])) D = some (.lst (((put l p).take i).map V.int ++ [v])) ∧ ((put l p).take i).map V.int ++ [v] = ((put l p).take (i + 1)).map V.int := fun v ev => by
      refine ⟨by rw [upd_ne Dt]; exact gD, Same.put (Same.put sG ht0 _) hD0 _, upd_same, ?_⟩
      rw [List.take_add_one, ep, ev]
      simp
    cases c with
    | none => exact iteT ⟨_, rfl, fin _ rfl⟩
    | some i => exact iteF ⟨_, rfl, fin _ rfl⟩
  · rintro i ys G hi ⟨sG, gD, rfl⟩
    exact small1000 (by rw [List.length_map, List.length_take]; omega)
  · rintro ys G ⟨sG, gD, rfl⟩
    refine ⟨D, _, rfl, .inl ⟨SqL.of gD, fun r hr' => q r _ (Same.trans sG (same_new hr' _)) (Same.free sG hr') ?_⟩⟩
    rw [upd_same, List.length_map, ← pl, List.take_length]
theorem scMa : FnScope ["values", "letter"] ["values", "letter"] (defScope sMatch) := ⟨rfl, rfl, rfl, by decide +kernel, rfl, by decide +kernel, by decide +kernel⟩
theorem ok_match {f g : Addr} {fd gd : FuncData} (F : Fun K "matches" "matches" sMatch f fd) (G : FnOk P w K mg base CX0 1 g gd ["letter", "values"] (spPut K)) (bG : Binds K gd ["letter", "values"] []) (kG : PySem.W.keepIn K (.ref g) = true)
    (mG : mg "with_put" = some (.ref g)) : FnOk P w K mg base CX0 2 f fd ["values", "letter"] (spMatch K) := by
  refine F.ok scMa (fun vs H Q E h => ?_) (fun cdv A outer s H vs Q E hr h => ?_)
  · obtain ⟨a, b, l, p, rfl, _⟩ := h
    rfl
  obtain ⟨a, b, l, p, rfl, ha, hb, hlen, h100, q⟩ := h
  refine ⟨_, pss_one (ps_ret (pe_cmpR (op_eqTI (Nat.lt_of_le_of_lt (Nat.le_add_right _ _) hr.units)) (pe_call G hr rfl mG kG bG .nil pass0 (pa_cons (pv 1) (pa_cons (pv 0) pa_nil))) (pv 1) (nomark _))), ?_⟩
  refine ⟨_, rfl, _, rfl, a, b, l, p, rfl, ha, hb, hlen, h100, fun r G1 s1 hr1 g1 => ⟨_, rfl, r, a, _, _, rfl, rfl, SqT.of g1, ha.same s1, q G1 s1⟩⟩
end
end S62


set_option Elab.async false
set_option maxRecDepth 100000
set_option maxHeartbeats 4000000
/-! k62: by_table -/
namespace S62
open PySem L2 PySem.TupSet
/-- what a table asks at a letter -/
def due (P : Program) (w : World) (l : List Int) : List Row → List (List Int)
  | [] => []
  | r :: t => if put l r.m = l then srtT P w (r.ds.map (put l)) else due P w l t
theorem tups_of {K : PySem.W.Frag} {H : Hp} : ∀ {ys : List V} {L : List (List Int)}, Holds K H ys (L.map letD) → TupsV K H ys L
  | [], [], _ => .nil
  | [], _ :: _, h => by cases h
  | _ :: _, [], h => by cases h
  | y :: ys, l :: L, h => by
    cases h with
    | cons h1 r1 =>
      obtain ⟨a, rfl, ha⟩ := let_open h1
      exact .cons ⟨a, rfl, ha⟩ (tups_of r1)
theorem holds_of {K : PySem.W.Frag} {H : Hp} : ∀ {ys : List V} {L : List (List Int)}, TupsV K H ys L → Holds K H ys (L.map letD)
  | _, _, .nil => .nil
  | _, _, .cons h r => by
    obtain ⟨a, rfl, ha⟩ := h
    exact .cons (let_at ha) (holds_of r)
/-- a table stands at t -/
def TabAt (K : PySem.W.Frag) (H : Hp) (t : Addr) (T : List Row) : Prop := ∃ xs, SqL K H t xs ∧ Holds K H xs (T.map rowD)
def LetAt (K : PySem.W.Frag) (H : Hp) (r : Addr) (ls : List (List Int)) : Prop := ∃ xs, H r = some (.lst xs) ∧ Holds K H xs (ls.map letD)
def spBy (P : Program) (w : World) (K : PySem.W.Frag) : Sp := fun vs H Q _ => ∃ (t a : Addr) (l : List Int) (T : List Row), vs = [.ref t, .ref a] ∧ TabAt K H t T ∧ SqT K H a (l.map V.int) ∧ (∀ r ∈ T, RowOk l.length r) ∧ 1 ≤ l.length ∧ l.length ≤ 100 ∧
  ∀ (r : Addr) (H' : Hp), Same H H' → H r = none → LetAt K H' r (due P w l T) → Q (.ref r) H'
def scBc : Scope := { kind := .function, names := [(".0", .local), ("deed", .local), ("with_put", .globalImplicit), ("letter", .free)], isGenerator := false, isCoroutine := false, more := [] }
abbrev nBy : List Str := ["table", "letter", "row"]
section
variable {P : Program} {w : World} {K : PySem.W.Frag} {mg : Str → Option Value} {base : Heap}
theorem scBy : FnScope nBy ["table", "letter"] (defScope sBy) := ⟨rfl, rfl, rfl, by decide +kernel, rfl, by decide +kernel, by decide +kernel⟩
theorem cBy {CX : CXT} {f : Addr} {cdv : Value} {A : Around} {outer : List Env} {s : Shared} {H : Hp} {E : XK} :
    CScope (cxOf CX P w K mg base nBy "by_table" (defScope sBy) f cdv A outer s H E).nox ["deed"] ["letter"] [1] scBc [("letter", s.heap.objs.size + 1)] := by
  refine cs_of [(".0", .local), ("deed", .local), ("with_put", .globalImplicit), ("letter", .cell)] (by with_unfolding_all rfl) rfl (by decide +kernel) (by decide +kernel) (fun p hp => ?_) (by with_unfolding_all rfl) (fun p hp hk => ?_) rfl (fun j y e => ?_)
  · cases List.mem_singleton.mp hp
    with_unfolding_all rfl
  · simp only [List.mem_cons, List.not_mem_nil, or_false] at hp
    rcases hp with z | z | z | z
    · subst z; rcases hk with q | q <;> cases q
    · subst z; rcases hk with q | q <;> cases q
    · subst z; rcases hk with q | q <;> cases q
    · subst z; exact ⟨_, by with_unfolding_all rfl⟩
  · match j, e with
    | 0, e =>
      have y' : ("letter" : Str) = y := Option.some.inj e
      subst y'
      exact ⟨1, rfl, rfl, .inl (by with_unfolding_all rfl), .inl (by with_unfolding_all rfl)⟩
theorem ok_by {f fM fP : Addr} {fd dM dP : FuncData} (F : Fun K "by_table" "by_table" sBy f fd)
    (GM : FnOk P w K mg base CX0 2 fM dM ["values", "letter"] (spMatch K)) (bM : Binds K dM ["values", "letter"] []) (kM : PySem.W.keepIn K (.ref fM) = true) (mM : mg "matches" = some (.ref fM))
    (GP : FnOk P w K mg base CX0 1 fP dP ["letter", "values"] (spPut K)) (bP : Binds K dP ["letter", "values"] []) (kP : PySem.W.keepIn K (.ref fP) = true) (mP : mg "with_put" = some (.ref fP))
    (ms : mg "sorted" = none) (mt : mg "set" = none) : FnOk P w K mg base CX0 3 f fd ["table", "letter"] (spBy P w K) := by
  refine F.ok scBy (fun vs H Q E h => ?_) (fun cdv A outer s H vs Q E hr h => ?_)
  · obtain ⟨t, a, l, T, rfl, _⟩ := h
    rfl
  obtain ⟨t, a, l, T, rfl, ⟨xs, ht, hd⟩, ha, hok, l1, l100, q⟩ := h
  refine ⟨_, pss_cons (ps_for PassesOwn.never rfl (pi_list (pv 0)) (pg_name (i := 2) scBy.nd rfl (Or.inl rfl))
      (pss_one (ps_if (pt_val (pe_call GM hr rfl mM kM bM .nil pass0 (pa_cons (pe_ix ix_tup (pv 2) pe_int (fun _ _ => rfl)) (pa_cons (pv 1) pa_nil))))
        (pss_one (ps_ret (pe_srt rfl (Nat.lt_of_le_of_lt (Nat.add_le_add_left (by decide : 8 ≤ 64) _) hr.units) rfl ms (by kernel_rfl) rfl mt (by kernel_rfl)
          (pe_comp (ns := ["deed"]) (ys := ["letter"]) (sc := scBc) cBy rfl (pi_tup (pe_ix ix_tup (pv 2) pe_int (fun _ _ => rfl)))
            (fun C s H fp => pg_name (i := 0) (by show (["deed", "letter"] : List Str).Nodup; decide +kernel) rfl (Or.inl rfl)) (fun C s H fp => pts_nil)
            (fun C s H fp => pe_call GP (hr.mono (by decide)) rfl mP kP bP .nil pass0 (pa_cons (pv 1) (pa_cons (pv 0) pa_nil))))))) pss_nil)))
    (pss_one (ps_ret (pe_lst pa_nil))), ?_⟩
  have lx : xs.length = T.length := by rw [hd.length, List.length_map]
  refine ⟨_, rfl, t, rfl, ⟨_, ht⟩, for_list (K := K) (a := t) (xs := xs) (fun i σ G => ∃ v : Option V, σ = [some (.ref t), some (.ref a), v] ∧ Same H G ∧ due P w l (T.drop i) = due P w l T) ⟨none, rfl, Same.refl _, rfl⟩ (fun i σ G _ ⟨_, _, sG, _⟩ => sG.seq ht) ?_ ?_⟩
  · rintro i x σ G hx ⟨v, rfl, sG, eD⟩
    obtain ⟨r, er, hr0⟩ := hd.getm hx
    have rk := hok r (List.mem_of_getElem? er)
    have hi : i < T.length := (List.getElem?_eq_some_iff.mp er).1
    obtain ⟨b, ys, rfl, hb, hys⟩ := Hold.tupI (Hold.mono sG hr0)
    cases hys with
    | cons h1 r1 =>
      cases r1 with
      | cons h2 r2 =>
        cases r2
        obtain ⟨m, rfl, hm⟩ := par_open h1
        obtain ⟨dd, zs, rfl, hdd, hzs⟩ := Hold.tupI h2
        have eT : T.drop i = r :: T.drop (i + 1) := by
          rw [List.drop_eq_getElem_cons hi]
          rw [List.getElem?_eq_getElem hi] at er
          rw [Option.some.inj er]
        rw [eT, due] at eD
        refine ⟨_, rfl, b, _, _, _, rfl, rfl, hb, rfl, _, rfl, a, m, l, r.m, rfl, ha.same sG, hm, rk.ml.symm, l100, fun G1 s1 => ⟨_, rfl, ?_⟩⟩
        have sG1 := Same.trans sG s1
        refine ite2 (fun c => ?_) (fun c => ?_)
        · have c' : put l r.m = l := of_decide_eq_true c
          rw [if_pos c'] at eD
          refine ⟨_, rfl, b, _, _, _, rfl, rfl, hb.same s1, rfl, dd, rfl, ⟨_, hdd.same s1⟩, fun D hD => ?_⟩
          have lz : zs.length = r.ds.length := by rw [hzs.length, List.length_map]
          refine comp_tup (K := K) (a := dd) (xs := zs) (fun j us G2 => Same G1 G2 ∧ G2 D = some (.lst us) ∧ Holds K G2 us (((r.ds.take j).map (put l)).map letD)) ⟨same_new hD _, upd_same, .nil⟩ (fun j us G2 z => z.2.1) (fun j us G2 _ z => (hdd.same s1).same z.1) ?_ ?_
          · rintro j y us G2 hy ⟨s2, d2, k2⟩
            obtain ⟨p, ep, hp⟩ := hzs.getm hy
            have pk := rk.dm p (List.mem_of_getElem? ep)
            obtain ⟨pa, rfl, hpa⟩ := par_open (Hold.mono (Same.trans s1 s2) hp)
            have jl : j < r.ds.length := (List.getElem?_eq_some_iff.mp ep).1
            have ul : us.length ≤ 3 := by
              rw [k2.length, List.length_map, List.length_map, List.length_take]
              have := rk.dl
              omega
            refine ⟨small1000 (by omega), ⟨[some _], rfl, rfl⟩, ?_⟩
            refine ⟨_, rfl, _, rfl, a, pa, l, p, rfl, ha.same (Same.trans sG1 s2), hpa, pk.symm, l100, fun u G3 s3 hu g3 => ?_⟩
            have d3 : G3 D = some (.lst us) := s3 _ _ d2
            refine ⟨d3, Same.put (Same.trans s2 s3) hD _, upd_same, ?_⟩
            rw [List.take_add_one, ep, List.map_append, List.map_append]
            refine Holds.append (Holds.stay ((Tups.of s3).trans (Tups.put d3 _)) (fixL_map letD_fix _) k2) (.one (let_at (SqT.of ?_)))
            rw [upd_ne (ne_of g3 d3 (by intro z; cases z))]
            exact g3
          · rintro us G2 ⟨s2, d2, k2⟩
            rw [lz, List.take_length] at k2
            refine ⟨D, us, r.ds.map (put l), rfl, SqL.of d2, tups_of k2, (by rw [List.length_map]; exact rk.dl), fun x hx => ?_, fun d us' hd' ht' => ?_⟩
            · obtain ⟨p, hp, rfl⟩ := List.mem_map.mp hx
              have z := put_len (l := l) (p := p) (rk.dm p hp).symm
              intro e
              rw [e] at z
              simp at z
              omega
            · have sA := Same.trans sG1 s2
              refine q d _ (Same.trans sA (same_new hd' _)) (Same.free sA hd') ⟨us', upd_same, ?_⟩
              rw [← eD]
              exact (holds_of ht').mono (same_new hd' _)
        · have c' : put l r.m ≠ l := of_decide_eq_false (by simpa using c)
          rw [if_neg c'] at eD
          exact ⟨_, rfl, sG1, eD⟩
  · rintro σ G ⟨v, rfl, sG, eD⟩
    rw [lx, List.drop_length] at eD
    refine ⟨(by show 0 ≤ sizeLine; decide), fun r hr' => q r _ (Same.trans sG (same_new hr' _)) (Same.free sG hr') ⟨[], upd_same, ?_⟩⟩
    rw [← eD]
    exact .nil
end
end S62


set_option Elab.async false
set_option maxRecDepth 100000
set_option maxHeartbeats 4000000
/-! k62: the script's cells; the letters of a speech -/
namespace S62
open PySem L2
def spCell (K : PySem.W.Frag) : Sp := fun vs H Q _ => ∃ (a : Addr) (k : Int) (ns : List Int), vs = [.ref a, .int k] ∧ SqL K H a (ns.map V.int) ∧ 0 ≤ k ∧ ∀ n : Int, Q (.int n) H
def spLett (K : PySem.W.Frag) : Sp := fun vs H Q _ => ∃ (a : Addr) (ws : List (Str × Nat)), vs = [.ref a] ∧ Hold K H (.ref a) (speechD ws) ∧ SpeechOk ws ∧
  ∀ (r' : Addr) (H' : Hp), Same H H' → H r' = none → LetAt K H' r' (S1.letters (ws.map (·.2))) → Q (.ref r') H'
def scLc : Scope := { kind := .function, names := [(".0", .local), ("_law_value", .local), ("_law_letter", .free)], isGenerator := false, isCoroutine := false, more := [] }
abbrev nLe : List Str := ["_law_speech_here", "_law_found", "_law_field", "_law_count", "_law_longer", "_law_letter"]
section
variable {P : Program} {w : World} {K : PySem.W.Frag} {mg : Str → Option Value} {base : Heap}
theorem scCe : FnScope ["_law_script", "_law_k"] ["_law_script", "_law_k"] (defScope sCell) := ⟨rfl, rfl, rfl, by decide +kernel, rfl, by decide +kernel, by decide +kernel⟩
theorem ok_cell {f : Addr} {fd : FuncData} (F : Fun K "_law_cell" "_law_cell" sCell f fd) (ml : mg "len" = none) : FnOk P w K mg base CX0 1 f fd ["_law_script", "_law_k"] (spCell K) := by
  refine F.ok scCe (fun vs H Q E h => ?_) (fun cdv A outer s H vs Q E hr h => ?_)
  · obtain ⟨a, k, ns, rfl, _⟩ := h
    rfl
  obtain ⟨a, k, ns, rfl, hS, k0, q⟩ := h
  refine ⟨_, pss_cons (ps_if (pt_cmpR op_lt (pv 1) (pe_callB call_len_seq rfl ml PySem.boot_len (pa_cons (pv 0) pa_nil)) (nomark _)) (pss_one (ps_ret (pe_ix ix_list (pv 0) (pv 1) (fun _ _ => rfl)))) pss_nil)
    (pss_one (ps_ret pe_int)), ?_⟩
  refine ⟨_, rfl, _, rfl, a, _, rfl, .inl hS, _, _, rfl, rfl, _, rfl, ?_⟩
  refine ite2 (fun c => ?_) (fun _ => ?_)
  · have c' : k < (((ns.map V.int).length : Nat) : Int) := of_decide_eq_true c
    rw [List.length_map] at c'
    obtain ⟨x, _, e⟩ := menu (ns := ns) k0 c'
    exact ⟨_, rfl, _, rfl, a, _, _, _, rfl, rfl, hS, e, q x⟩
  · exact q 0
theorem scLe : FnScope nLe ["_law_speech_here"] (defScope sLett) := ⟨rfl, rfl, rfl, by decide +kernel, rfl, by decide +kernel, by decide +kernel⟩
theorem cLe {CX : CXT} {f : Addr} {cdv : Value} {A : Around} {outer : List Env} {s : Shared} {H : Hp} {E : XK} :
    CScope (cxOf CX P w K mg base nLe "_law_letters" (defScope sLett) f cdv A outer s H E).nox ["_law_value"] ["_law_letter"] [5] scLc [("_law_letter", s.heap.objs.size + 1)] := by
  refine cs_of [(".0", .local), ("_law_value", .local), ("_law_letter", .cell)] (by with_unfolding_all rfl) rfl (by decide +kernel) (by decide +kernel) (fun p hp => ?_) (by with_unfolding_all rfl) (fun p hp hk => ?_) rfl (fun j y e => ?_)
  · cases List.mem_singleton.mp hp
    with_unfolding_all rfl
  · simp only [List.mem_cons, List.not_mem_nil, or_false] at hp
    rcases hp with z | z | z
    · subst z; rcases hk with q | q <;> cases q
    · subst z; rcases hk with q | q <;> cases q
    · subst z; exact ⟨_, by with_unfolding_all rfl⟩
  · match j, e with
    | 0, e =>
      have y' : ("_law_letter" : Str) = y := Option.some.inj e
      subst y'
      exact ⟨5, rfl, rfl, .inl (by with_unfolding_all rfl), .inl (by with_unfolding_all rfl)⟩
theorem ok_lett {f : Addr} {fd : FuncData} (F : Fun K "_law_letters" "_law_letters" sLett f fd) (mr : mg "range" = none) : FnOk P w K mg base CX0 1 f fd ["_law_speech_here"] (spLett K) := by
  refine F.ok scLe (fun vs H Q E h => ?_) (fun cdv A outer s H vs Q E hr h => ?_)
  · obtain ⟨a, ws, rfl, _⟩ := h
    rfl
  obtain ⟨a, ws, rfl, hs, sk, q⟩ := h
  refine ⟨_, pss_cons (ps_set (i := 1) scLe.nd rfl (Or.inl rfl) (pe_lst (pa_cons (pe_tup pa_nil) pa_nil)))
    (pss_cons (ps_for PassesOwn.never rfl (pi_tup (pv 0)) (pg_tup rfl (pgs_cons (pg_name (i := 2) scLe.nd rfl (Or.inl rfl)) (pgs_cons (pg_name (i := 3) scLe.nd rfl (Or.inl rfl)) pgs_nil)))
      (pss_cons (ps_set (i := 4) scLe.nd rfl (Or.inl rfl) (pe_lst pa_nil))
      (pss_cons (ps_for PassesOwn.never rfl (pi_list (pv 1)) (pg_name (i := 5) scLe.nd rfl (Or.inr rfl))
        (pss_one (ps_set (i := 4) scLe.nd rfl (Or.inl rfl) (pe_op op_cat (pv 4) (pe_comp (ns := ["_law_value"]) (ys := ["_law_letter"]) (sc := scLc) cLe rfl (pi_range1 rfl mr (pa_cons (pv 3) pa_nil))
          (fun C s H fp => pg_name (i := 0) (by show (["_law_value", "_law_letter"] : List Str).Nodup; decide +kernel) rfl (Or.inl rfl)) (fun C s H fp => pts_nil)
          (fun C s H fp => pe_op (r := fun x y H Q => rCatT K x y H Q ∨ rCatT0 K x y H Q) op_catTT (pv 1) (pe_tup (pa_cons (pv 0) pa_nil))))))))
      (pss_one (ps_set (i := 1) scLe.nd rfl (Or.inl rfl) (pv 4))))))
    (pss_one (ps_ret (pv 1)))), ?_⟩
  refine ⟨(by show 0 ≤ sizeLine; decide), fun t ht => ⟨(by show 1 ≤ sizeLine; decide), fun r hr' => ?_⟩⟩
  have tr : t ≠ r := ne_of_none upd_same hr'
  have hr0 : H r = none := Same.free (same_new ht _) hr'
  obtain ⟨a', vs, ea, ha, hd⟩ := Hold.tupI hs
  cases ea
  have ll : vs.length = ws.length := by rw [hd.length, List.length_map]
  have s0 : Same H (upd (upd H t (.tup [])) r (.lst [.ref t])) := Same.put (same_new ht _) hr0 _
  refine ⟨_, rfl, a, rfl, ⟨_, ha.same s0⟩, for_tup (K := K) (a := a) (xs := vs) (fun i σ G => ∃ (r : Addr) (v2 v3 v4 v5 : Option V), σ = [some (.ref a), some (.ref r), v2, v3, v4, v5] ∧ Same H G ∧ H r = none ∧ LetAt K G r (S1.letters ((ws.take i).map (·.2))))
    ⟨r, none, none, none, none, rfl, s0, hr0, [.ref t], upd_same, .one (.tup (SqT.of (by rw [upd_ne tr, upd_same])) .nil)⟩ (fun i σ G _ ⟨_, _, _, _, _, _, sG, _⟩ => ha.same sG) ?_ ?_⟩
  · rintro i x σ G hx ⟨r, v2, v3, v4, v5, rfl, sG, hr0, rs, hr1, hd1⟩
    obtain ⟨w', ew, hw⟩ := hd.getm hx
    obtain ⟨b, ys, rfl, hb, hys⟩ := Hold.tupI hw
    have hi : i < ws.length := (List.getElem?_eq_some_iff.mp ew).1
    have wm : w' ∈ ws := List.mem_of_getElem? ew
    have h6 := sk.cnt w' wm
    cases hys with
    | cons h1 r1 =>
      cases r1 with
      | cons h2 r2 =>
        cases r2
        cases h1.flatI
        cases h2.flatI
        have i3 := sk.hi
        have lm : (S1.letters ((ws.take i).map (·.2))).length ≤ 36 := by
          rw [S1.letters_length]
          refine Nat.le_trans (S1.mul_le _ fun c hc => ?_) ?_
          · obtain ⟨z, hz, rfl⟩ := List.mem_map.mp hc
            exact (sk.cnt z (List.mem_of_mem_take hz)).2
          · rw [List.length_map, List.length_take]
            exact Nat.le_trans (Nat.pow_le_pow_right (by decide) (show min i ws.length ≤ 2 by omega)) (by decide)
        have w10 : ∀ l ∈ S1.letters ((ws.take i).map (·.2)), l.length ≤ 10 := fun l hl => by
          rw [(S1.good_letters _).wide l hl, List.length_map, List.length_take]
          omega
        refine ⟨b, _, rfl, hb.same sG, rfl, _, _, rfl, _, _, rfl, rfl, ?_⟩
        generalize hls : S1.letters ((ws.take i).map (·.2)) = ls at hd1 lm w10
        have lr : rs.length = ls.length := by rw [hd1.length, List.length_map]
        obtain ⟨c, hc⟩ : ∃ c, w'.2 = c := ⟨_, rfl⟩
        rw [hc] at h6
        refine ⟨(by show 0 ≤ sizeLine; decide), fun u hu => ?_⟩
        have hu0 : H u = none := Same.free sG hu
        refine ⟨_, rfl, r, rfl, ⟨_, SqL.of (same_new hu _ _ _ hr1)⟩, for_list (K := K) (a := r) (xs := rs) (fun j σ G2 => ∃ (u : Addr) (xs : List V) (v5 : Option V), σ = [some (.ref a), some (.ref r), some (.str w'.1), some (.int (w'.2 : Int)), some (.ref u), v5] ∧ Same G G2 ∧ H u = none ∧ G2 u = some (.lst xs) ∧
          Holds K G2 xs ((S1.longer (ls.take j) c).map letD)) ⟨u, [], v5, rfl, same_new hu _, hu0, upd_same, .nil⟩ (fun j σ G2 _ ⟨_, _, _, _, s2, _⟩ => SqL.of (s2 _ _ hr1)) ?_ ?_⟩
        · rintro j x σ G2 hx2 ⟨u, xs, v5, rfl, s2, hu0, gu, hd2⟩
          obtain ⟨l, el, hl⟩ := hd1.getm hx2
          obtain ⟨a2, rfl, ha2⟩ := let_open hl
          have hil : j < ls.length := (List.getElem?_eq_some_iff.mp el).1
          have lw : l.length ≤ 10 := w10 l (List.mem_of_getElem? el)
          have xl : xs.length ≤ 216 := by
            rw [hd2.length, List.length_map, S1.longer_length, List.length_take]
            exact Nat.le_trans (Nat.mul_le_mul (show min j ls.length ≤ 36 by omega) h6.2) (by decide)
          rw [hc]
          refine ⟨_, rfl, _, rfl, (c : Int), rfl, by omega, by omega, fun D hD => ?_⟩
          refine comp_range (n := (c : Int).toNat) (fun k zs G' => Same G2 G' ∧ G' D = some (.lst zs) ∧ Holds K G' zs (((List.range k).map fun (v : Nat) => l ++ [(v : Int)]).map letD)) ⟨same_new hD _, upd_same, .nil⟩ (fun k zs G' h => h.2.1) ?_ ?_
          · rintro k zs G' hk ⟨s1, d1, k1⟩
            have zl : zs.length = k := by rw [k1.length, List.length_map, List.length_map, List.length_range]
            refine ⟨small1000 (by omega), ⟨[some _], rfl, rfl⟩, ?_⟩
            refine ⟨_, rfl, _, rfl, (by show 1 ≤ sizeLine; decide), fun t ht => ?_⟩
            have fin : ∀ (p : Addr) (G3 : Hp), Same G' G3 → G3 p = some (.tup ((l ++ [(k : Int)]).map V.int)) → G3 D = some (.lst zs) ∧ Same G2 (upd G3 D (.lst (zs ++ [.ref p]))) ∧ upd G3 D (.lst (zs ++ [.ref p])) D = some (.lst (zs ++ [.ref p])) ∧
                Holds K (upd G3 D (.lst (zs ++ [.ref p]))) (zs ++ [.ref p]) (((List.range (k + 1)).map fun (v : Nat) => l ++ [(v : Int)]).map letD) := fun p G3 s3 hp => by
              have hD3 : G3 D = some (.lst zs) := s3 _ _ d1
              refine ⟨hD3, Same.put (Same.trans s1 s3) hD _, upd_same, ?_⟩
              rw [List.range_succ, List.map_append, List.map_append]
              refine Holds.append (Holds.stay ((Tups.of s3).trans (Tups.put hD3 _)) (by rw [List.map_map]; exact fixL_map (fun _ => letD_fix _) _) k1) (.one (.tup (SqT.of ?_) (holds_ints _)))
              rw [upd_ne (ne_of hp hD3 (by intro z; cases z))]
              exact hp
            have ha' : SqT K G' a2 (l.map V.int) := ha2.same (Same.trans s2 s1)
            by_cases hl0 : l = []
            · subst hl0
              refine .inr ⟨a2, t, [.int (0 + (k : Int))], rfl, rfl, ha'.same (same_new ht _), SqT.of upd_same, fin t _ (same_new ht _) ?_⟩
              rw [upd_same]
              simp
            · refine .inl ⟨a2, t, l.map V.int, [.int (0 + (k : Int))], rfl, rfl, ha'.same (same_new ht _), SqT.of upd_same, (by simpa using hl0), small (by rw [List.length_map]; show l.length + 1 ≤ 1000; omega), (fun e => by cases e), fun _ p hp => fin p _ (Same.trans (same_new ht _) (same_new hp _)) ?_⟩
              rw [upd_same]
              simp
          · rintro zs G' ⟨s1, d1, k1⟩
            have ct : (c : Int).toNat = c := by omega
            rw [ct] at k1
            have zl : zs.length = c := by rw [k1.length, List.length_map, List.length_map, List.length_range]
            have gu' : G' u = some (.lst xs) := s1 _ _ gu
            refine ⟨u, D, xs, zs, rfl, rfl, gu', d1, small (by omega), fun p hp => ?_⟩
            have s3 := Same.trans s2 s1
            refine ⟨p, xs ++ zs, _, by rw [← hc]; rfl, Same.trans s3 (same_new hp _), Same.free (Same.trans sG s3) hp, upd_same, ?_⟩
            have tk : ls.take (j + 1) = ls.take j ++ [l] := by rw [List.take_add_one, el]; rfl
            rw [tk, S1.longer_snoc, List.map_append]
            exact Holds.append (hd2.mono (Same.trans s1 (same_new hp _))) (k1.mono (same_new hp _))
        · rintro σ G2 ⟨u, xs, v5, rfl, s2, hu0, gu, hd2⟩
          refine ⟨_, rfl, u, _, _, _, _, rfl, Same.trans sG s2, hu0, xs, gu, ?_⟩
          have tk : (ws.take (i + 1)).map (·.2) = (ws.take i).map (·.2) ++ [w'.2] := by rw [List.take_add_one, ew]; simp
          rw [lr, List.take_length] at hd2
          rw [tk, S1.letters_snoc, hls, hc]
          exact hd2
  · rintro σ G ⟨r, v2, v3, v4, v5, rfl, sG, hr0, lt⟩
    refine ⟨_, rfl, q r G sG hr0 ?_⟩
    rw [ll, List.take_length] at lt
    exact lt
end
end S62


set_option Elab.async false
set_option maxRecDepth 100000
set_option maxHeartbeats 4000000
/-! k62: a part and a row are drawn -/
namespace S62
open PySem L2
def spPart (K : PySem.W.Frag) : Sp := fun vs H Q _ => ∃ (r sp : Addr) (a b sh : Int) (ws : List (Str × Nat)), vs = [.ref r, .ref sp, .int sh] ∧ H r = some (.lst [.int a, .int b]) ∧ 0 ≤ a ∧ 0 ≤ b ∧ Hold K H (.ref sp) (speechD ws) ∧ SpeechOk ws ∧
  ∀ (t : Addr) (p : List (Option Int)) (a' b' : Int) (H' : Hp), 0 ≤ a' → 0 ≤ b' → H' r = some (.lst [.int a', .int b']) → Keep r H H' → H t = none → H' t = some (.tup (p.map cV)) → p.length = ws.length → Q (.ref t) H'
def spRow (K : PySem.W.Frag) : Sp := fun vs H Q _ => ∃ (n : Int) (sp : Addr) (ws : List (Str × Nat)), vs = [.int n, .ref sp] ∧ Hold K H (.ref sp) (speechD ws) ∧ SpeechOk ws ∧
  ∀ (y : V) (r : Row) (H' : Hp), Same H H' → Hold K H' y (rowD r) → RowOk ws.length r → Q y H'
abbrev nPa : List Str := ["_law_purse_here", "_law_speech_here", "_law_share", "_law_part_here", "_law_field", "_law_count", "_law_value"]
theorem speech_fix (ws : List (Str × Nat)) : (speechD ws).fix = true := by
  unfold speechD
  rw [Da.fix]
  exact fixL_map (fun _ => rfl) ws
theorem Keep.trans {r : Addr} {H G J : Hp} (a : Keep r H G) (b : Keep r G J) : Keep r H J := fun c o n e => b c o n (a c o n e)
theorem Keep.put {r u : Addr} {H G : Hp} (a : Keep r H G) (h : H u = none) (o : HO) : Keep r H (upd G u o) := fun c x n e => by rw [upd_ne (ne_of_none e h)]; exact a c x n e
theorem Keep.free {r u : Addr} {H G : Hp} (a : Keep r H G) (h : G u = none) (n : u ≠ r) : H u = none := by
  cases e : H u with
  | none => rfl
  | some x => rw [a u x n e] at h; cases h
theorem Keep.new {r p : Addr} {H : Hp} (h : H p = none) (o : HO) : Keep r H (upd H p o) := fun c x _ e => same_new h o c x e
section
variable {P : Program} {w : World} {K : PySem.W.Frag} {mg : Str → Option Value} {base : Heap}
theorem scPa : FnScope nPa ["_law_purse_here", "_law_speech_here", "_law_share"] (defScope sPart) := ⟨rfl, rfl, rfl, by decide +kernel, rfl, by decide +kernel, by decide +kernel⟩
theorem ok_part {f fT : Addr} {fd dT : FuncData} (F : Fun K "_law_part" "_law_part" sPart f fd)
    (GT : FnOk P w K mg base CX0 1 fT dT ["_law_purse_here", "_law_many"] spTake) (bT : Binds K dT ["_law_purse_here", "_law_many"] []) (kT : PySem.W.keepIn K (.ref fT) = true) (mT : mg "_law_take" = some (.ref fT))
    (mi : mg "int" = none) (mt : mg "tuple" = none) : FnOk P w K mg base CX0 2 f fd ["_law_purse_here", "_law_speech_here", "_law_share"] (spPart K) := by
  refine F.ok scPa (fun vs H Q E h => ?_) (fun cdv A outer s H vs Q E hr h => ?_)
  · obtain ⟨r, sp, a, b, sh, ws, rfl, _⟩ := h
    rfl
  obtain ⟨r, sp, a, b, sh, ws, rfl, hl, ha, hb, hs, sk, q⟩ := h
  refine ⟨_, pss_cons (ps_set (i := 3) scPa.nd rfl (Or.inl rfl) (pe_lst pa_nil))
    (pss_cons (ps_for PassesOwn.never rfl (pi_tup (pv 1)) (pg_tup rfl (pgs_cons (pg_name (i := 4) scPa.nd rfl (Or.inl rfl)) (pgs_cons (pg_name (i := 5) scPa.nd rfl (Or.inl rfl)) pgs_nil)))
      (pss_cons (ps_set (i := 6) scPa.nd rfl (Or.inl rfl) (pe_call GT hr rfl mT kT bT .nil pass0 (pa_cons (pv 0) (pa_cons (pv 5) pa_nil))))
      (pss_one (ps_expr (pe_bm PySem.F.plainAttrs_list PySem.F.slot_list_append PySem.F.type_list_append mt_append (pv 3)
        (pa_cons (pe_ix ix_list (pe_lst (pa_cons (pv 6) (pa_cons pe_non pa_nil))) (pe_callTy call_int1 rfl mi (by kernel_rfl) (pa_cons (pe_cmpR op_lt (pe_call GT hr rfl mT kT bT .nil pass0 (pa_cons (pv 0) (pc_c pe_int pa_nil))) (pv 2) (nomark _)) pa_nil)) (fun _ _ => rfl)) pa_nil))))))
    (pss_one (ps_ret (pe_callTy call_tuple_of rfl mt (by kernel_rfl) (pa_cons (pv 3) pa_nil))))), ?_⟩
  refine ⟨(by show 0 ≤ sizeLine; decide), fun u hu => ?_⟩
  have ru : r ≠ u := ne_of_none hl hu
  obtain ⟨sp', vs, ea, hsp, hd⟩ := Hold.tupI hs
  cases ea
  have ll : vs.length = ws.length := by rw [hd.length, List.length_map]
  have tk : ∀ {G : Hp}, Keep r H G → Tups H G := fun k => Tups.but (u := r) hl k
  refine ⟨_, rfl, sp, rfl, ⟨_, hsp.same (same_new hu _)⟩, for_tup (K := K) (a := sp) (xs := vs) (fun i σ G => ∃ (a b : Int) (p : List (Option Int)) (v4 v5 v6 : Option V), σ = [some (.ref r), some (.ref sp), some (.int sh), some (.ref u), v4, v5, v6] ∧ Keep r H G ∧ G r = some (.lst [.int a, .int b]) ∧ 0 ≤ a ∧ 0 ≤ b ∧
    G u = some (.lst (p.map cV)) ∧ p.length = i) ⟨a, b, [], none, none, none, rfl, Keep.new hu _, (by rw [upd_ne ru]; exact hl), ha, hb, upd_same, rfl⟩ (fun i σ G _ ⟨_, _, _, _, _, _, _, kG, _⟩ => hsp.tups (tk kG)) ?_ ?_⟩
  · rintro i x σ G hx ⟨a, b, p, v4, v5, v6, rfl, kG, gr, ha, hb, gu, pl⟩
    obtain ⟨w', ew, hw⟩ := hd.getm hx
    have hi : i < ws.length := (List.getElem?_eq_some_iff.mp ew).1
    have h6 := sk.cnt w' (List.mem_of_getElem? ew)
    have i3 := sk.hi
    obtain ⟨c, ys, rfl, hc, hys⟩ := Hold.tupI hw
    cases hys with
    | cons h1 r1 =>
      cases r1 with
      | cons h2 r2 =>
        cases r2
        cases h1.flatI
        cases h2.flatI
        refine ⟨c, _, rfl, hc.tups (tk kG), rfl, _, _, rfl, _, _, rfl, rfl, ?_⟩
        refine ⟨_, rfl, _, rfl, r, a, b, (w'.2 : Int), rfl, gr, ha, hb, by omega, by omega, fun v a1 b1 G1 v0 v1 ha1 hb1 g1 k1 => ?_⟩
        have gu1 : G1 u = some (.lst (p.map cV)) := k1 _ _ ru.symm gu
        refine ⟨_, rfl, .inl ⟨rfl, _, SqL.of gu1⟩, _, rfl, (by show 2 ≤ sizeLine; decide), fun l hl2 => ?_⟩
        have rl : r ≠ l := ne_of_none g1 hl2
        have ul : u ≠ l := ne_of_none gu1 hl2
        refine ⟨_, rfl, r, a1, b1, 6, rfl, (by rw [upd_ne rl]; exact g1), ha1, hb1, by decide, by decide, fun v2 a2 b2 G2 _ _ ha2 hb2 g2 k2 => ?_⟩
        have gl2 : G2 l = some (.lst [.int v, .non]) := k2 _ _ rl.symm upd_same
        have gu2 : G2 u = some (.lst (p.map cV)) := k2 _ _ ru.symm (by rw [upd_ne ul]; exact gu1)
        have kA : Keep r H G2 := (kG.trans k1).trans ((Keep.new hl2 _).trans k2)
        refine ⟨_, rfl, _, _, rfl, rfl, .inr ⟨_, rfl, ?_⟩⟩
        have fin : ∀ cc : Option Int, ∃ l_1 xs y, V.ref u = V.ref l_1 ∧ [cV cc] = [y] ∧ G2 l_1 = some (.lst xs) ∧ xs.length < sizeLine ∧ ∃ (a b : Int) (p : List (Option Int)) (v4 v5 v6 : Option V), [some (V.ref r), some (.ref sp), some (.int sh), some (.ref u), some (.str w'.1), some (.int (w'.2 : Int)), some (.int v)] = [some (V.ref r), some (.ref sp), some (.int sh), some (.ref u), v4, v5, v6] ∧ Keep r H (upd G2 l_1 (.lst (xs ++ [y]))) ∧ upd G2 l_1 (.lst (xs ++ [y])) r = some (.lst [.int a, .int b]) ∧ 0 ≤ a ∧ 0 ≤ b ∧
            upd G2 l_1 (.lst (xs ++ [y])) u = some (.lst (p.map cV)) ∧ p.length = i + 1 := fun cc =>
          ⟨u, _, _, rfl, rfl, gu2, small1000 (by rw [List.length_map]; omega), a2, b2, p ++ [cc], _, _, _, rfl, kA.put hu _, (by rw [upd_ne ru]; exact g2), ha2, hb2, (by rw [upd_same, List.map_append]; rfl), (by rw [List.length_append, pl]; rfl)⟩
        generalize decide (v2 < sh) = k
        cases k with
        | true => exact ⟨l, _, _, _, rfl, rfl, SqL.of gl2, rfl, fin none⟩
        | false => exact ⟨l, _, _, _, rfl, rfl, SqL.of gl2, rfl, fin (some v)⟩
  · rintro σ G ⟨a, b, p, v4, v5, v6, rfl, kG, gr, ha, hb, gu, pl⟩
    refine ⟨_, rfl, u, _, rfl, .inl ⟨SqL.of gu, fun t ht => ?_⟩⟩
    have rt : r ≠ t := ne_of_none gr ht
    have ht0 : H t = none := kG.free ht rt.symm
    exact q t p a b _ ha hb (by rw [upd_ne rt]; exact gr) (kG.put ht0 _) ht0 upd_same (by omega)
def scRc : Scope := { kind := .function, names := [(".0", .local), ("_law_k", .local), ("_law_part", .globalImplicit), ("_law_purse_here", .free), ("_law_speech_here", .free)], isGenerator := false, isCoroutine := false, more := [] }
abbrev nRo : List Str := ["_law_cell_here", "_law_speech_here", "_law_purse_here", "_law_match", "_law_many"]
theorem scRo : FnScope nRo ["_law_cell_here", "_law_speech_here"] (defScope sRow) := ⟨rfl, rfl, rfl, by decide +kernel, rfl, by decide +kernel, by decide +kernel⟩
theorem cRo {CX : CXT} {f : Addr} {cdv : Value} {A : Around} {outer : List Env} {s : Shared} {H : Hp} {E : XK} :
    CScope (cxOf CX P w K mg base nRo "_law_row" (defScope sRow) f cdv A outer s H E).nox ["_law_k"] ["_law_purse_here", "_law_speech_here"] [2, 1] scRc [("_law_speech_here", s.heap.objs.size + 1), ("_law_purse_here", s.heap.objs.size + 1 + 1)] := by
  refine cs_of [(".0", .local), ("_law_k", .local), ("_law_part", .globalImplicit), ("_law_purse_here", .cell), ("_law_speech_here", .cell)] (by with_unfolding_all rfl) rfl (by decide +kernel) (by decide +kernel) (fun p hp => ?_) (by with_unfolding_all rfl) (fun p hp hk => ?_) rfl (fun j y e => ?_)
  · rcases List.mem_cons.mp hp with z | z
    · subst z; with_unfolding_all rfl
    · cases List.mem_singleton.mp z
      with_unfolding_all rfl
  · simp only [List.mem_cons, List.not_mem_nil, or_false] at hp
    rcases hp with z | z | z | z | z
    · subst z; rcases hk with q | q <;> cases q
    · subst z; rcases hk with q | q <;> cases q
    · subst z; rcases hk with q | q <;> cases q
    · subst z; exact ⟨_, by with_unfolding_all rfl⟩
    · subst z; exact ⟨_, by with_unfolding_all rfl⟩
  · match j, e with
    | 0, e =>
      have y' : ("_law_purse_here" : Str) = y := Option.some.inj e
      subst y'
      exact ⟨2, rfl, rfl, .inl (by with_unfolding_all rfl), .inl (by with_unfolding_all rfl)⟩
    | 1, e =>
      have y' : ("_law_speech_here" : Str) = y := Option.some.inj e
      subst y'
      exact ⟨1, rfl, rfl, .inl (by with_unfolding_all rfl), .inl (by with_unfolding_all rfl)⟩
theorem ok_row {f fP fT fQ : Addr} {fd dP dT dQ : FuncData} (F : Fun K "_law_row" "_law_row" sRow f fd)
    (GP : FnOk P w K mg base CX0 1 fP dP ["_law_cell_here"] spPurse) (bP : Binds K dP ["_law_cell_here"] []) (kP : PySem.W.keepIn K (.ref fP) = true) (mP : mg "_law_purse" = some (.ref fP))
    (GT : FnOk P w K mg base CX0 1 fT dT ["_law_purse_here", "_law_many"] spTake) (bT : Binds K dT ["_law_purse_here", "_law_many"] []) (kT : PySem.W.keepIn K (.ref fT) = true) (mT : mg "_law_take" = some (.ref fT))
    (GQ : FnOk P w K mg base CX0 2 fQ dQ ["_law_purse_here", "_law_speech_here", "_law_share"] (spPart K)) (bQ : Binds K dQ ["_law_purse_here", "_law_speech_here", "_law_share"] []) (kQ : PySem.W.keepIn K (.ref fQ) = true) (mQ : mg "_law_part" = some (.ref fQ))
    (mr : mg "range" = none) (mt : mg "tuple" = none) : FnOk P w K mg base CX0 3 f fd ["_law_cell_here", "_law_speech_here"] (spRow K) := by
  refine F.ok scRo (fun vs H Q E h => ?_) (fun cdv A outer s H vs Q E hr h => ?_)
  · obtain ⟨n, sp, ws, rfl, _⟩ := h
    rfl
  obtain ⟨n, sp, ws, rfl, hs, sk, q⟩ := h
  have hr1 : Room 1 _ := hr.mono (by decide)
  refine ⟨_, pss_cons (ps_set (i := 2) scRo.nd rfl (Or.inr rfl) (pe_call GP hr1 rfl mP kP bP .nil pass0 (pa_cons (pv 0) pa_nil)))
    (pss_cons (ps_set (i := 3) scRo.nd rfl (Or.inl rfl) (pe_call GQ hr rfl mQ kQ bQ .nil pass0 (pa_cons (pv 2) (pa_cons (pv 1) (pa_cons (pe_call GT hr1 rfl mT kT bT .nil pass0 (pa_cons (pv 2) (pc_c pe_int pa_nil))) pa_nil)))))
    (pss_cons (ps_set (i := 4) scRo.nd rfl (Or.inl rfl) (pe_ix ix_list (pe_lst (pc_c pe_int (pc_c pe_int (pc_c pe_int (pc_c pe_int pa_nil))))) (pe_call GT hr1 rfl mT kT bT .nil pass0 (pa_cons (pv 2) (pc_c pe_int pa_nil))) (fun _ _ => rfl)))
    (pss_one (ps_ret (pe_tup (pa_cons (pv 3) (pa_cons (pe_callTy call_tuple_of rfl mt (by kernel_rfl) (pa_cons (pe_comp (ns := ["_law_k"]) (ys := ["_law_purse_here", "_law_speech_here"]) (sc := scRc) cRo rfl (pi_range1 rfl mr (pa_cons (pv 4) pa_nil))
      (fun C s H fp => pg_name (i := 0) (by show (["_law_k", "_law_purse_here", "_law_speech_here"] : List Str).Nodup; decide +kernel) rfl (Or.inl rfl)) (fun C s H fp => pts_nil)
      (fun C s H fp => pe_call GQ hr rfl mQ kQ bQ .nil pass0 (pa_cons (pv 1) (pa_cons (pv 2) (pa_cons pe_int pa_nil))))) pa_nil)) pa_nil))))))), ?_⟩
  refine ⟨_, rfl, n, rfl, fun r a0 b0 hr0 a0' b0' => ?_⟩
  refine ⟨_, rfl, _, rfl, _, rfl, r, a0, b0, 5, rfl, upd_same, a0', b0', by decide, by decide, fun v1 a1 b1 G1 _ _ a1' b1' g1 k1 => ?_⟩
  have s1 : Same H G1 := Same.keep (same_new hr0 _) hr0 k1
  refine ⟨r, sp, a1, b1, v1, ws, rfl, g1, a1', b1', hs.mono s1, sk, fun m p a2 b2 G2 a2' b2' g2 k2 hm gm lp => ?_⟩
  have s2 : Same H G2 := Same.keep s1 hr0 k2
  refine ⟨(by show 4 ≤ sizeLine; decide), fun l hl => ?_⟩
  have rl : r ≠ l := ne_of_none g2 hl
  have ml : m ≠ l := ne_of_none gm hl
  refine ⟨_, rfl, r, a2, b2, 4, rfl, (by rw [upd_ne rl]; exact g2), a2', b2', by decide, by decide, fun v3 a3 b3 G3 v30 v31 a3' b3' g3 k3 => ?_⟩
  obtain ⟨mn, mm, me⟩ := menu (ns := [1, 2, 0, 3]) v30 v31
  have s3 : Same H G3 := Same.keep (Same.trans s2 (same_new hl _)) hr0 k3
  have mr' : m ≠ r := ne_of gm g2 (by intro z; cases z)
  have gm3 : G3 m = some (.tup (p.map cV)) := k3 _ _ mr' (by rw [upd_ne ml]; exact gm)
  refine ⟨l, _, _, _, rfl, rfl, SqL.of (k3 _ _ rl.symm upd_same), me, ?_⟩
  have mn3 : 0 ≤ mn ∧ mn ≤ 3 := by
    simp only [List.mem_cons, List.not_mem_nil, or_false] at mm
    omega
  refine ⟨_, rfl, _, rfl, mn, rfl, by omega, by omega, fun D hD => ?_⟩
  have rD : r ≠ D := ne_of_none g3 hD
  have tk : ∀ {G : Hp}, Keep r G3 G → Tups G3 G := fun k => Tups.but (u := r) g3 k
  refine comp_range (n := mn.toNat) (fun j ys G => ∃ (a b : Int) (ps : List (List (Option Int))), Keep r G3 G ∧ G r = some (.lst [.int a, .int b]) ∧ 0 ≤ a ∧ 0 ≤ b ∧ G D = some (.lst ys) ∧ Holds K G ys (ps.map parD) ∧ ps.length = j ∧ ∀ d ∈ ps, d.length = ws.length)
    ⟨a3, b3, [], Keep.new hD _, (by rw [upd_ne rD]; exact g3), a3', b3', upd_same, .nil, rfl, fun d hd => nomatch hd⟩ (fun j ys G ⟨_, _, _, _, _, _, _, h, _⟩ => h) ?_ ?_
  · rintro j ys G hj ⟨a, b, ps, kG, gr, ha, hb, gD, hd, pj, pd⟩
    have yl : ys.length = j := by rw [hd.length, List.length_map, pj]
    refine ⟨small1000 (by omega), ⟨[some _], rfl, rfl⟩, ?_⟩
    refine ⟨_, rfl, _, rfl, r, sp, a, b, 3, ws, rfl, gr, ha, hb, Hold.stay (tk kG) (speech_fix ws) (hs.mono s3), sk, fun t p' a' b' G' ha' hb' g' k' ht gt lp' => ?_⟩
    have gD' : G' D = some (.lst ys) := k' _ _ rD.symm gD
    refine ⟨gD', a', b', ps ++ [p'], (kG.trans k').put hD _, (by rw [upd_ne rD]; exact g'), ha', hb', upd_same, ?_, (by rw [List.length_append, pj]; rfl), fun d hd' => ?_⟩
    · rw [List.map_append]
      refine Holds.append (Holds.stay ((Tups.but (u := r) gr k').trans (Tups.put gD' _)) (fixL_map parD_fix _) hd) (.one (par_at (SqT.of ?_)))
      rw [upd_ne (ne_of gt gD' (by intro z; cases z))]
      exact gt
    · rcases List.mem_append.mp hd' with z | z
      · exact pd d z
      · rw [List.mem_singleton.mp z]
        exact lp'
  · rintro ys G ⟨a, b, ps, kG, gr, ha, hb, gD, hd, pj, pd⟩
    refine ⟨D, ys, rfl, .inl ⟨SqL.of gD, fun t ht => ⟨(by show 2 ≤ sizeLine; decide), fun z hz => ?_⟩⟩⟩
    have sG : Same H G := Same.keep s3 hr0 kG
    have sA : Same H (upd G t (.tup ys)) := Same.trans sG (same_new ht _)
    have zt : t ≠ z := ne_of_none upd_same hz
    have sZ : Same G (upd (upd G t (.tup ys)) z (.tup [.ref m, .ref t])) := Same.trans (same_new ht _) (same_new hz _)
    have gmG : G m = some (.tup (p.map cV)) := kG _ _ mr' gm3
    refine q (.ref z) ⟨p, ps⟩ _ (Same.trans sA (same_new hz _)) (.tup (SqT.of upd_same) (.cons (par_at (SqT.of (sZ _ _ gmG))) (.cons (.tup (SqT.of (by rw [upd_ne zt, upd_same])) (hd.mono sZ)) .nil))) ⟨lp, ?_, pd⟩
    show ps.length ≤ 3
    omega
end
end S62


set_option Elab.async false
set_option maxRecDepth 100000
set_option maxHeartbeats 4000000
/-! k62: what the law itself makes of a table -/
namespace S62
open PySem L2 PySem.TupSet
/-- place k of the letter is not as the part asks -/
def bad (l : List Int) (m : List (Option Int)) (k : Nat) : Bool := match m[k]? with
  | some (some v) => !decide (l[k]? = some v)
  | _ => false
theorem put_at {l : List Int} {p : List (Option Int)} {k : Nat} {o : Int} {c : Option Int} (h1 : l[k]? = some o) (h2 : p[k]? = some c) : (put l p)[k]? = some (c.getD o) := by
  unfold put
  rw [List.getElem?_map, (List.getElem?_zip_eq_some (z := (o, c))).mpr ⟨h1, h2⟩]
  rfl
theorem put_iff {l : List Int} {m : List (Option Int)} (h : l.length = m.length) : ((List.range l.length).filter (bad l m)).length = 0 ↔ put l m = l := by
  have pl := put_len h
  rw [List.length_eq_zero_iff, List.filter_eq_nil_iff]
  constructor
  · intro q
    refine List.ext_getElem? fun k => ?_
    by_cases hk : k < l.length
    · have e1 : l[k]? = some l[k] := List.getElem?_eq_getElem hk
      have e2 : m[k]? = some (m[k]'(by omega)) := List.getElem?_eq_getElem (by omega)
      rw [put_at e1 e2, e1]
      have z := q k (List.mem_range.mpr hk)
      unfold bad at z
      rw [e2] at z
      generalize m[k]'(by omega) = c at z
      cases c with
      | none => rfl
      | some v =>
        simp only [e1] at z
        have z' : l[k] = v := by simpa using z
        rw [z']
        rfl
    · rw [List.getElem?_eq_none (by omega), List.getElem?_eq_none (by omega)]
  · intro q k hk
    have hk := List.mem_range.mp hk
    have e1 : l[k]? = some l[k] := List.getElem?_eq_getElem hk
    have e2 : m[k]? = some (m[k]'(by omega)) := List.getElem?_eq_getElem (by omega)
    have e3 := put_at e1 e2
    rw [q, e1] at e3
    unfold bad
    rw [e2]
    generalize m[k]'(by omega) = c at e3
    cases c with
    | none => simp
    | some v =>
      have e4 : l[k] = v := Option.some.inj e3
      simp [e1, e4]
theorem atR {α : Type} {xs : List α} {k : Nat} {v : α} (h : xs[k]? = some v) : atI xs (0 + (k : Int)) = some v := by
  rw [Int.zero_add]
  exact atI_nat h
theorem bad_snoc (l : List Int) (m : List (Option Int)) (k : Nat) : ((List.range (k + 1)).filter (bad l m)).length = ((List.range k).filter (bad l m)).length + (if bad l m k = true then 1 else 0) := by
  rw [List.range_succ, List.filter_append, List.length_append]
  cases q : bad l m k <;> simp [q]
def scD1 : Scope := { kind := .function, names := [(".0", .local), ("_law_k", .local), ("_law_letter", .free), ("_law_match", .free)], isGenerator := false, isCoroutine := false, more := [] }
def scD2 : Scope := { kind := .function, names := [(".0", .local), ("_law_k", .local), ("int", .globalImplicit), ("_law_deed", .free), ("_law_letter", .free)], isGenerator := false, isCoroutine := false, more := [] }
abbrev nDu : List Str := ["_law_table", "_law_letter", "_law_match", "_law_deeds", "_law_found", "_law_deed"]
section
variable {P : Program} {w : World} {K : PySem.W.Frag} {mg : Str → Option Value} {base : Heap}
theorem scDu : FnScope nDu ["_law_table", "_law_letter"] (defScope sDue) := ⟨rfl, rfl, rfl, by decide +kernel, rfl, by decide +kernel, by decide +kernel⟩
theorem cD1 {CX : CXT} {f : Addr} {cdv : Value} {A : Around} {outer : List Env} {s : Shared} {H : Hp} {E : XK} :
    CScope (cxOf CX P w K mg base nDu "_law_due" (defScope sDue) f cdv A outer s H E).nox ["_law_k"] ["_law_letter", "_law_match"] [1, 2] scD1 [("_law_match", s.heap.objs.size + 1 + 1), ("_law_letter", s.heap.objs.size + 1)] := by
  refine cs_of [(".0", .local), ("_law_k", .local), ("_law_letter", .cell), ("_law_match", .cell)] (by with_unfolding_all rfl) rfl (by decide +kernel) (by decide +kernel) (fun p hp => ?_) (by with_unfolding_all rfl) (fun p hp hk => ?_) rfl (fun j y e => ?_)
  · rcases List.mem_cons.mp hp with z | z
    · subst z; with_unfolding_all rfl
    · cases List.mem_singleton.mp z
      with_unfolding_all rfl
  · simp only [List.mem_cons, List.not_mem_nil, or_false] at hp
    rcases hp with z | z | z | z
    · subst z; rcases hk with q | q <;> cases q
    · subst z; rcases hk with q | q <;> cases q
    · subst z; exact ⟨_, by with_unfolding_all rfl⟩
    · subst z; exact ⟨_, by with_unfolding_all rfl⟩
  · match j, e with
    | 0, e =>
      have y' : ("_law_letter" : Str) = y := Option.some.inj e
      subst y'
      exact ⟨1, rfl, rfl, .inl (by with_unfolding_all rfl), .inl (by with_unfolding_all rfl)⟩
    | 1, e =>
      have y' : ("_law_match" : Str) = y := Option.some.inj e
      subst y'
      exact ⟨2, rfl, rfl, .inl (by with_unfolding_all rfl), .inl (by with_unfolding_all rfl)⟩
theorem cD2 {CX : CXT} {f : Addr} {cdv : Value} {A : Around} {outer : List Env} {s : Shared} {H : Hp} {E : XK} :
    CScope (cxOf CX P w K mg base nDu "_law_due" (defScope sDue) f cdv A outer s H E).nox ["_law_k"] ["_law_deed", "_law_letter"] [5, 1] scD2 [("_law_letter", s.heap.objs.size + 1), ("_law_deed", s.heap.objs.size + 1 + 1 + 1)] := by
  refine cs_of [(".0", .local), ("_law_k", .local), ("int", .globalImplicit), ("_law_deed", .cell), ("_law_letter", .cell)] (by with_unfolding_all rfl) rfl (by decide +kernel) (by decide +kernel) (fun p hp => ?_) (by with_unfolding_all rfl) (fun p hp hk => ?_) rfl (fun j y e => ?_)
  · rcases List.mem_cons.mp hp with z | z
    · subst z; with_unfolding_all rfl
    · cases List.mem_singleton.mp z
      with_unfolding_all rfl
  · simp only [List.mem_cons, List.not_mem_nil, or_false] at hp
    rcases hp with z | z | z | z | z
    · subst z; rcases hk with q | q <;> cases q
    · subst z; rcases hk with q | q <;> cases q
    · subst z; rcases hk with q | q <;> cases q
    · subst z; exact ⟨_, by with_unfolding_all rfl⟩
    · subst z; exact ⟨_, by with_unfolding_all rfl⟩
  · match j, e with
    | 0, e =>
      have y' : ("_law_deed" : Str) = y := Option.some.inj e
      subst y'
      exact ⟨5, rfl, rfl, .inl (by with_unfolding_all rfl), .inl (by with_unfolding_all rfl)⟩
    | 1, e =>
      have y' : ("_law_letter" : Str) = y := Option.some.inj e
      subst y'
      exact ⟨1, rfl, rfl, .inl (by with_unfolding_all rfl), .inl (by with_unfolding_all rfl)⟩
theorem ok_due {f : Addr} {fd : FuncData} (F : Fun K "_law_due" "_law_due" sDue f fd) (ml : mg "len" = none) (mr : mg "range" = none) (mt : mg "tuple" = none) (mi : mg "int" = none)
    (ms : mg "sorted" = none) (me : mg "set" = none) : FnOk P w K mg base CX0 1 f fd ["_law_table", "_law_letter"] (spBy P w K) := by
  refine F.ok scDu (fun vs H Q E h => ?_) (fun cdv A outer s H vs Q E hr h => ?_)
  · obtain ⟨t, a, l, T, rfl, _⟩ := h
    rfl
  obtain ⟨t, a, l, T, rfl, ⟨xs, ht, hd⟩, ha, hok, l1, l100, q⟩ := h
  refine ⟨_, pss_cons (ps_for PassesOwn.never rfl (pi_list (pv 0)) (pg_tup rfl (pgs_cons (pg_name (i := 2) scDu.nd rfl (Or.inr rfl)) (pgs_cons (pg_name (i := 3) scDu.nd rfl (Or.inl rfl)) pgs_nil)))
      (pss_one (ps_if (pt_cmpR op_eq (pe_callB call_len_seq rfl ml PySem.boot_len (pa_cons (pe_comp (ns := ["_law_k"]) (ys := ["_law_letter", "_law_match"]) (sc := scD1) cD1 rfl (pi_range1 rfl mr (pa_cons (pe_callB call_len_seq rfl ml PySem.boot_len (pa_cons (pv 1) pa_nil)) pa_nil))
          (fun C s H fp => pg_name (i := 0) (by show (["_law_k", "_law_letter", "_law_match"] : List Str).Nodup; decide +kernel) rfl (Or.inl rfl))
          (fun C s H fp => pts_one (PW.pt (pw_and (pt_cmp (pc_notN (pe_ix (r := rIxT K) ix_tup (pv 2) (pv 0) (fun _ _ => rfl)))) (pw_and1 (pt_cmpR op_ne (pe_ix (r := rIxT K) ix_tup (pv 2) (pv 0) (fun _ _ => rfl)) (pe_ix (r := rIxT K) ix_tup (pv 1) (pv 0) (fun _ _ => rfl)) (nomark _))))))
          (fun C s H fp => pv 0)) pa_nil)) pe_int (nomark _))
        (pss_cons (ps_set (i := 4) scDu.nd rfl (Or.inl rfl) (pe_lst pa_nil))
        (pss_cons (ps_for PassesOwn.never rfl (pi_tup (pv 3)) (pg_name (i := 5) scDu.nd rfl (Or.inr rfl))
          (pss_one (ps_expr (pe_bm PySem.F.plainAttrs_list PySem.F.slot_list_append PySem.F.type_list_append mt_append (pv 4) (pa_cons (pe_callTy call_tuple_of rfl mt (by kernel_rfl) (pa_cons
            (pe_comp (ns := ["_law_k"]) (ys := ["_law_deed", "_law_letter"]) (sc := scD2) cD2 rfl (pi_range1 rfl mr (pa_cons (pe_callB call_len_seq rfl ml PySem.boot_len (pa_cons (pv 1) pa_nil)) pa_nil))
              (fun C s H fp => pg_name (i := 0) (by show (["_law_k", "_law_deed", "_law_letter"] : List Str).Nodup; decide +kernel) rfl (Or.inl rfl)) (fun C s H fp => pts_nil)
              (fun C s H fp => pe_ix (r := rIxL K) ix_list (pe_lst (pc_s (pe_ix (r := rIxT K) ix_tup (pv 1) (pv 0) (fun _ _ => rfl)) (pc_s (pe_ix (r := rIxT K) ix_tup (pv 2) (pv 0) (fun _ _ => rfl)) pa_nil)))
                (pe_callTy call_int1 rfl mi (by kernel_rfl) (pa_cons (pe_cmp (pc_isN (pe_ix (r := rIxT K) ix_tup (pv 1) (pv 0) (fun _ _ => rfl)))) pa_nil)) (fun _ _ => rfl))) pa_nil)) pa_nil)))))
        (pss_one (ps_ret (pe_srt rfl (Nat.lt_of_le_of_lt (Nat.add_le_add_left (by decide : 8 ≤ 64) _) hr.units) rfl ms (by kernel_rfl) rfl me (by kernel_rfl) (pv 4)))))) pss_nil)))
    (pss_one (ps_ret (pe_lst pa_nil))), ?_⟩
  have lx : xs.length = T.length := by rw [hd.length, List.length_map]
  have nn : ((((l.map V.int).length : Nat) : Int)).toNat = l.length := by simp
  have nb : 0 ≤ ((((l.map V.int).length : Nat) : Int)) ∧ ((((l.map V.int).length : Nat) : Int)) ≤ 100 := by
    rw [List.length_map]
    omega
  refine ⟨_, rfl, t, rfl, ⟨_, ht⟩, for_list (K := K) (a := t) (xs := xs) (fun i σ G => ∃ v2 v3 v4 v5 : Option V, σ = [some (.ref t), some (.ref a), v2, v3, v4, v5] ∧ Same H G ∧ due P w l (T.drop i) = due P w l T) ⟨none, none, none, none, rfl, Same.refl _, rfl⟩ (fun i σ G _ ⟨_, _, _, _, _, sG, _⟩ => sG.seq ht) ?_ ?_⟩
  · rintro i x σ G hx ⟨v2, v3, v4, v5, rfl, sG, eD⟩
    obtain ⟨r, er, hr0⟩ := hd.getm hx
    have rk := hok r (List.mem_of_getElem? er)
    have hi : i < T.length := (List.getElem?_eq_some_iff.mp er).1
    obtain ⟨b, ys, rfl, hb, hys⟩ := Hold.tupI (Hold.mono sG hr0)
    cases hys with
    | cons h1 r1 =>
      cases r1 with
      | cons h2 r2 =>
        cases r2
        obtain ⟨m, rfl, hm⟩ := par_open h1
        obtain ⟨dd, zs, rfl, hdd, hzs⟩ := Hold.tupI h2
        have eT : T.drop i = r :: T.drop (i + 1) := by
          rw [List.drop_eq_getElem_cons hi]
          rw [List.getElem?_eq_getElem hi] at er
          rw [Option.some.inj er]
        rw [eT, due] at eD
        refine ⟨b, _, rfl, hb, rfl, _, _, rfl, _, _, rfl, rfl, ?_⟩
        refine ⟨_, rfl, a, _, rfl, .inr (ha.same sG), _, rfl, by omega, by omega, fun D hD => ?_⟩
        refine comp_range (n := ((((l.map V.int).length : Nat) : Int)).toNat) (fun k us G1 => Same G G1 ∧ G1 D = some (.lst us) ∧ us.length = ((List.range k).filter (bad l r.m)).length) ⟨same_new hD _, upd_same, rfl⟩ (fun k us G1 z => z.2.1) ?_ ?_
        · rintro k us G1 hk ⟨s1, d1, e1⟩
          rw [nn] at hk
          have el : l[k]? = some l[k] := List.getElem?_eq_getElem hk
          have km : k < r.m.length := by rw [rk.ml]; exact hk
          have em : r.m[k]? = some r.m[k] := List.getElem?_eq_getElem km
          have ul : us.length ≤ k := by
            rw [e1]
            exact Nat.le_trans (List.length_filter_le _ _) (by rw [List.length_range]; exact Nat.le_refl _)
          have vm : (r.m.map cV)[k]? = some (cV r.m[k]) := by rw [List.getElem?_map, em]; rfl
          have vl : (l.map V.int)[k]? = some (.int l[k]) := by rw [List.getElem?_map, el]; rfl
          refine ⟨small1000 (by omega), ⟨[some _], rfl, rfl⟩, ?_⟩
          refine ⟨_, rfl, _, rfl, m, _, _, _, rfl, rfl, hm.same s1, atR vm, _, rfl, ?_⟩
          have bs := bad_snoc l r.m k
          have bk : bad l r.m k = match r.m[k] with | some v => !decide (l[k] = v) | none => false := by
            unfold bad
            rw [em, el]
            cases r.m[k] <;> simp
          generalize r.m[k] = c at vm bk
          cases c with
          | none =>
            refine iteF (iteF ⟨s1, d1, ?_⟩)
            rw [bs, bk, if_neg (by simp), e1]
            rfl
          | some v =>
            refine iteT ⟨_, rfl, _, rfl, m, _, _, _, rfl, rfl, hm.same s1, atR vm, _, rfl, _, rfl, a, _, _, _, rfl, rfl, (ha.same sG).same s1, atR vl, rfl, _, rfl, ?_⟩
            have bq : (!decide (V.int v = V.int l[k])) = bad l r.m k := by
              rw [bk]
              simp [eq_comm]
            show if (!decide (V.int v = V.int l[k])) = true then _ else _
            rw [bq]
            refine ite2 (fun c => ?_) (fun c => ?_)
            · refine ⟨_, rfl, d1, Same.put s1 hD _, upd_same, ?_⟩
              rw [bs, if_pos c, List.length_append, e1]
              rfl
            · refine ⟨s1, d1, ?_⟩
              rw [bs, if_neg c, e1]
              rfl
        · rintro us G1 ⟨s1, d1, e1⟩
          rw [nn] at e1
          refine ⟨D, us, rfl, .inl (SqL.of d1), rfl, _, rfl, ?_⟩
          have sG1 := Same.trans sG s1
          have hp := put_iff (l := l) (m := r.m) rk.ml.symm
          rw [← e1] at hp
          refine ite2 (fun c => ?_) (fun c => ?_)
          · have c0 : us.length = 0 := by
              have z : V.int (us.length : Int) = V.int 0 := of_decide_eq_true c
              have z' : (us.length : Int) = 0 := V.int.inj z
              omega
            rw [if_pos (hp.mp c0)] at eD
            refine ⟨(by show 0 ≤ sizeLine; decide), fun u hu => ?_⟩
            have hu0 : H u = none := Same.free sG1 hu
            have lz : zs.length = r.ds.length := by rw [hzs.length, List.length_map]
            refine ⟨_, rfl, dd, rfl, ⟨_, (hdd.same s1).same (same_new hu _)⟩, for_tup (K := K) (a := dd) (xs := zs) (fun j σ G2 => ∃ (us : List V) (v5 : Option V), σ = [some (.ref t), some (.ref a), some (.ref m), some (.ref dd), some (.ref u), v5] ∧ Same G1 G2 ∧ G2 u = some (.lst us) ∧
              Holds K G2 us (((r.ds.take j).map (put l)).map letD)) ⟨[], _, rfl, same_new hu _, upd_same, .nil⟩ (fun j σ G2 _ ⟨_, _, _, s2, _⟩ => (hdd.same s1).same s2) ?_ ?_⟩
            · rintro j y σ G2 hy ⟨us, v5, rfl, s2, gu, k2⟩
              obtain ⟨p, ep, hp⟩ := hzs.getm hy
              have pk := rk.dm p (List.mem_of_getElem? ep)
              obtain ⟨pa, rfl, hpa⟩ := par_open (Hold.mono (Same.trans s1 s2) hp)
              have jl : j < r.ds.length := (List.getElem?_eq_some_iff.mp ep).1
              have ul : us.length ≤ 3 := by
                rw [k2.length, List.length_map, List.length_map, List.length_take]
                have := rk.dl
                omega
              have pl := put_len (l := l) (p := p) pk.symm
              refine ⟨_, rfl, .inl ⟨rfl, _, SqL.of gu⟩, _, rfl, a, _, rfl, .inr ((ha.same sG1).same s2), _, rfl, by omega, by omega, fun D2 hD2 => ?_⟩
              have uD2 : u ≠ D2 := ne_of_none gu hD2
              refine comp_range (n := ((((l.map V.int).length : Nat) : Int)).toNat) (fun k ys G3 => Same G2 G3 ∧ G3 D2 = some (.lst ys) ∧ ys = ((put l p).take k).map V.int) ⟨same_new hD2 _, upd_same, rfl⟩ (fun k ys G3 z => z.2.1) ?_ ?_
              · rintro k ys G3 hk ⟨s3, d3, rfl⟩
                rw [nn] at hk
                have el : l[k]? = some l[k] := List.getElem?_eq_getElem hk
                have km : k < p.length := by rw [pk]; exact hk
                have em : p[k]? = some p[k] := List.getElem?_eq_getElem km
                have vm : (p.map cV)[k]? = some (cV p[k]) := by rw [List.getElem?_map, em]; rfl
                have vl : (l.map V.int)[k]? = some (.int l[k]) := by rw [List.getElem?_map, el]; rfl
                have ea := put_at el em
                have hpa3 := hpa.same s3
                have ha3 := ((ha.same sG1).same s2).same s3
                refine ⟨small1000 (by rw [List.length_map, List.length_take]; omega), ⟨[some _], rfl, rfl⟩, ?_⟩
                refine ⟨_, rfl, _, rfl, pa, _, _, _, rfl, rfl, hpa3, atR vm, _, rfl, _, rfl, a, _, _, _, rfl, rfl, ha3, atR vl, (by show 2 ≤ sizeLine; decide), fun z hz => ?_⟩
                have Dz : D2 ≠ z := ne_of_none d3 hz
                have hz2 : G2 z = none := Same.free s3 hz
                refine ⟨_, rfl, _, rfl, pa, _, _, _, rfl, rfl, hpa3.same (same_new hz _), atR vm, .inr ⟨_, rfl, ?_⟩⟩
                have fin : ∀ v : V, v = .int (p[k].getD l[k]) → upd G3 z (.lst [cV p[k], .int l[k]]) D2 = some (.lst (((put l p).take k).map V.int)) ∧ Same G2 (upd (upd G3 z (.lst [cV p[k], .int l[k]])) D2 (.lst (((put l p).take k).map V.int ++ [v]))) ∧
                    upd (upd G3 z (.lst [cV p[k], .int l[k]])) D2 (.lst (((put l p).take k).map V.int ++ [v])) D2 = some (.lst (((put l p).take k).map V.int ++ [v])) ∧ ((put l p).take k).map V.int ++ [v] = ((put l p).take (k + 1)).map V.int := fun v ev => by
                  refine ⟨by rw [upd_ne Dz]; exact d3, Same.put (Same.put s3 hz2 _) hD2 _, upd_same, ?_⟩
                  rw [List.take_add_one, ea, ev]
                  simp
                generalize p[k] = c at fin
                cases c with
                | none => exact ⟨z, _, _, _, rfl, rfl, SqL.of upd_same, rfl, fin _ rfl⟩
                | some v => exact ⟨z, _, _, _, rfl, rfl, SqL.of upd_same, rfl, fin _ rfl⟩
              · rintro ys G3 ⟨s3, d3, rfl⟩
                rw [nn] at d3
                refine ⟨D2, _, rfl, .inl ⟨SqL.of d3, fun t2 ht2 => ?_⟩⟩
                rw [← pl, List.take_length] at *
                have gu3 : G3 u = some (.lst us) := s3 _ _ gu
                have ut : u ≠ t2 := ne_of_none gu3 ht2
                refine ⟨u, us, _, rfl, rfl, (by rw [upd_ne ut]; exact gu3), small1000 (by omega), us ++ [.ref t2], _, rfl, ?_, upd_same, ?_⟩
                · have sB := Same.trans s2 (Same.trans s3 (same_new ht2 (.tup ((put l p).map V.int))))
                  exact Same.put sB hu _
                · rw [List.take_add_one, ep, List.map_append, List.map_append]
                  refine Holds.append (Holds.stay ((Tups.of (Same.trans s3 (same_new ht2 _))).trans (Tups.put (by rw [upd_ne ut]; exact gu3) _)) (fixL_map letD_fix _) k2) (.one (let_at (SqT.of ?_)))
                  rw [upd_ne ut.symm, upd_same]
            · rintro σ G2 ⟨us, v5, rfl, s2, gu, k2⟩
              rw [lz, List.take_length] at k2
              refine ⟨_, rfl, u, us, r.ds.map (put l), rfl, SqL.of gu, tups_of k2, (by rw [List.length_map]; exact rk.dl), fun x hx => ?_, fun d us' hd' ht' => ?_⟩
              · obtain ⟨p, hp, rfl⟩ := List.mem_map.mp hx
                have z := put_len (l := l) (p := p) (rk.dm p hp).symm
                intro e
                rw [e] at z
                simp at z
                omega
              · have sA := Same.trans sG1 s2
                refine q d _ (Same.trans sA (same_new hd' _)) (Same.free sA hd') ⟨us', upd_same, ?_⟩
                rw [← eD]
                exact (holds_of ht').mono (same_new hd' _)
          · have c0 : us.length ≠ 0 := fun z => c (by rw [z]; rfl)
            rw [if_neg (fun z => c0 (hp.mpr z))] at eD
            exact ⟨_, _, _, _, rfl, sG1, eD⟩
  · rintro σ G ⟨v2, v3, v4, v5, rfl, sG, eD⟩
    rw [lx, List.drop_length] at eD
    refine ⟨(by show 0 ≤ sizeLine; decide), fun r hr' => q r _ (Same.trans sG (same_new hr' _)) (Same.free sG hr') ⟨[], upd_same, ?_⟩⟩
    rw [← eD]
    exact .nil
end
end S62


set_option Elab.async false
set_option maxRecDepth 100000
set_option maxHeartbeats 4000000
/-! k62: the law -/
namespace S62
open PySem L2 PySem.TupSet
theorem kit_ll (K : PySem.W.Frag) : PySem.W.kitOne K (.type "list") (.type "list") = some true := by kernel_rfl
theorem at0 {α : Type} (x : α) (xs : List α) : atI (x :: xs) (0 : Int) = some x := atI_nat (j := 0) rfl
theorem depL_map {α : Type} {f : α → Da} {n : Nat} (h : ∀ a, (f a).dep ≤ n) : ∀ l : List α, depL (l.map f) ≤ n
  | [] => by rw [List.map_nil, depL]; exact Nat.zero_le _
  | a :: r => by
    rw [List.map_cons, depL]
    exact Nat.max_le.mpr ⟨h a, depL_map h r⟩
theorem letD_dep (l : List Int) : (letD l).dep ≤ 1 := by
  unfold letD
  rw [Da.dep]
  have z := depL_map (n := 0) (f := fun v : Int => Da.flat (.int v)) (fun a => by rw [Da.dep]; exact Nat.le_refl _) l
  omega
theorem parD_dep (p : List (Option Int)) : (parD p).dep ≤ 1 := by
  unfold parD
  rw [Da.dep]
  have z := depL_map (n := 0) (f := fun c : Option Int => Da.flat (cV c)) (fun a => by rw [Da.dep]; exact Nat.le_refl _) p
  omega
theorem rowD_dep (r : Row) : (rowD r).dep ≤ 3 := by
  unfold rowD
  rw [Da.dep, depL, depL, depL, Da.dep]
  have z1 := parD_dep r.m
  have z2 := depL_map (n := 1) parD_dep r.ds
  omega
theorem mul_pos_from : ∀ (cs : List Nat) (k : Nat), 1 ≤ k → (∀ c ∈ cs, 1 ≤ c) → 1 ≤ cs.foldl (· * ·) k
  | [], k, h, _ => h
  | c :: r, k, h, q => mul_pos_from r (k * c) (Nat.mul_le_mul h (q c List.mem_cons_self)) fun d hd => q d (List.mem_cons_of_mem _ hd)
def spLaw (K : PySem.W.Frag) : Sp := fun vs H Q _ => ∃ (a : Addr) (ns : List Int), vs = [.ref a] ∧ SqL K H a (ns.map V.int) ∧ ns.length ≤ 63 ∧ ∀ H', Q (.bl true) H'
def scLw : Scope := { kind := .function, names := [(".0", .local), ("_law_cell_here", .local), ("_law_row", .globalImplicit), ("_law_speech_here", .free)], isGenerator := false, isCoroutine := false, more := [] }
abbrev nLa : List Str := ["_law_script", "_law_speech_here", "_law_letters_here", "_law_table", "_law_other", "_law_letter", "_law_found", "_law_due_here"]
section
variable {P : Program} {w : World} {K : PySem.W.Frag} {mg : Str → Option Value} {base : Heap}
theorem scLa : FnScope nLa ["_law_script"] (defScope sLaw) := ⟨rfl, rfl, rfl, by decide +kernel, rfl, by decide +kernel, by decide +kernel⟩
theorem cLa {CX : CXT} {f : Addr} {cdv : Value} {A : Around} {outer : List Env} {s : Shared} {H : Hp} {E : XK} :
    CScope (cxOf CX P w K mg base nLa "law" (defScope sLaw) f cdv A outer s H E).nox ["_law_cell_here"] ["_law_speech_here"] [1] scLw [("_law_speech_here", s.heap.objs.size + 1)] := by
  refine cs_of [(".0", .local), ("_law_cell_here", .local), ("_law_row", .globalImplicit), ("_law_speech_here", .cell)] (by with_unfolding_all rfl) rfl (by decide +kernel) (by decide +kernel) (fun p hp => ?_) (by with_unfolding_all rfl) (fun p hp hk => ?_) rfl (fun j y e => ?_)
  · cases List.mem_singleton.mp hp
    with_unfolding_all rfl
  · simp only [List.mem_cons, List.not_mem_nil, or_false] at hp
    rcases hp with z | z | z | z
    · subst z; rcases hk with q | q <;> cases q
    · subst z; rcases hk with q | q <;> cases q
    · subst z; rcases hk with q | q <;> cases q
    · subst z; exact ⟨_, by with_unfolding_all rfl⟩
  · match j, e with
    | 0, e =>
      have y' : ("_law_speech_here" : Str) = y := Option.some.inj e
      subst y'
      exact ⟨1, rfl, rfl, .inl (by with_unfolding_all rfl), .inl (by with_unfolding_all rfl)⟩
theorem ok_law {f fC fS fL fR fB fD : Addr} {fd dC dS dL dR dB dD : FuncData} (F : Fun K "law" "law" sLaw f fd)
    (GC : FnOk P w K mg base CX0 1 fC dC ["_law_script", "_law_k"] (spCell K)) (bC : Binds K dC ["_law_script", "_law_k"] []) (kC : PySem.W.keepIn K (.ref fC) = true) (mC : mg "_law_cell" = some (.ref fC))
    (GS : FnOk P w K mg base CX0 2 fS dS ["_law_cell_here", "_law_least"] (spSpeech K)) (bS : Binds K dS ["_law_cell_here", "_law_least"] []) (kS : PySem.W.keepIn K (.ref fS) = true) (mS : mg "_law_speech" = some (.ref fS))
    (GL : FnOk P w K mg base CX0 1 fL dL ["_law_speech_here"] (spLett K)) (bL : Binds K dL ["_law_speech_here"] []) (kL : PySem.W.keepIn K (.ref fL) = true) (mL : mg "_law_letters" = some (.ref fL))
    (GR : FnOk P w K mg base CX0 3 fR dR ["_law_cell_here", "_law_speech_here"] (spRow K)) (bR : Binds K dR ["_law_cell_here", "_law_speech_here"] []) (kR : PySem.W.keepIn K (.ref fR) = true) (mR : mg "_law_row" = some (.ref fR))
    (GB : FnOk P w K mg base CX0 3 fB dB ["table", "letter"] (spBy P w K)) (bB : Binds K dB ["table", "letter"] []) (kB : PySem.W.keepIn K (.ref fB) = true) (mB : mg "by_table" = some (.ref fB))
    (GD : FnOk P w K mg base CX0 1 fD dD ["_law_table", "_law_letter"] (spBy P w K)) (bD : Binds K dD ["_law_table", "_law_letter"] []) (kD : PySem.W.keepIn K (.ref fD) = true) (mD : mg "_law_due" = some (.ref fD))
    (mi : mg "isinstance" = none) (ml : mg "list" = none) : FnOk P w K mg base CX0 4 f fd ["_law_script"] (spLaw K) := by
  refine F.ok scLa (fun vs H Q E h => ?_) (fun cdv A outer s H vs Q E hr h => ?_)
  · obtain ⟨a, ns, rfl, _⟩ := h
    rfl
  obtain ⟨a, ns, rfl, hS, n63, q⟩ := h
  have hr1 : Room 1 _ := hr.mono (by decide)
  have hr2 : Room 2 _ := hr.mono (by decide)
  refine ⟨_, pss_cons (ps_set (i := 1) scLa.nd rfl (Or.inr rfl) (pe_call GS hr2 rfl mS kS bS .nil pass0 (pa_cons (pe_call GC hr1 rfl mC kC bC .nil pass0 (pa_cons (pv 0) (pa_cons pe_int pa_nil))) (pa_cons pe_int pa_nil))))
    (pss_cons (ps_set (i := 2) scLa.nd rfl (Or.inl rfl) (pe_call GL hr1 rfl mL kL bL .nil pass0 (pa_cons (pv 1) pa_nil)))
    (pss_cons (ps_setC (i0 := 3) (ns := ["_law_cell_here"]) (ys := ["_law_speech_here"]) (sc := scLw) scLa.nd rfl rfl cLa rfl (pi_list (pe_slice sl_list (pv 0) (po_some pe_int) (po_some pe_int)))
      (fun C s H fp => pg_name (i := 0) (by show (["_law_cell_here", "_law_speech_here"] : List Str).Nodup; decide +kernel) rfl (Or.inl rfl)) (fun C s H fp => pts_nil)
      (fun C s H fp => pe_call GR hr rfl mR kR bR .nil pass0 (pa_cons (pv 0) (pa_cons (pv 1) pa_nil))))
    (pss_cons (ps_set (i := 4) scLa.nd rfl (Or.inl rfl) (pe_callTy call_list_of rfl ml (by kernel_rfl) (pa_cons (pv 3) pa_nil)))
    (pss_cons (ps_for PassesOwn.never rfl (pi_list (pv 2)) (pg_name (i := 5) scLa.nd rfl (Or.inl rfl))
      (pss_cons (ps_set (i := 6) scLa.nd rfl (Or.inl rfl) (pe_call GB hr rfl mB kB bB .nil pass0 (pa_cons (pv 3) (pa_cons (pv 5) pa_nil))))
      (pss_cons (ps_set (i := 7) scLa.nd rfl (Or.inl rfl) (pe_call GD hr1 rfl mD kD bD .nil pass0 (pa_cons (pv 3) (pa_cons (pv 5) pa_nil))))
      (pss_cons (ps_if (PW.pt (pw_or (pt_not (pt_val (pe_callB call_isq rfl mi (by kernel_rfl) (pa_cons (pv 6) (pa_cons (pe_bltn (v := .ty "list") rfl ml (by kernel_rfl) rfl) pa_nil)))))
        (pw_or (pt_cmpR (op_neLL hr.units) (pv 6) (pv 7) (nomark _)) (pw_or1 (pt_cmpR (op_neLL hr.units) (pv 3) (pv 4) (nomark _)))))) (pss_one (ps_ret pe_bl)) pss_nil)
      (pss_cons (ps_expr (pe_bm0 PySem.F.plainAttrs_list PySem.F.slot_list_clear PySem.F.type_list_clear mt_clear (pv 6)))
      (pss_one (ps_if (pt_cmpR (op_neLL hr.units) (pe_call GB hr rfl mB kB bB .nil pass0 (pa_cons (pv 3) (pa_cons (pv 5) pa_nil))) (pv 7) (nomark _)) (pss_one (ps_ret pe_bl)) pss_nil)))))))
    (pss_one (ps_ret (pe_cmpR (op_eqLL hr.units) (pe_call GB hr rfl mB kB bB .nil pass0 (pa_cons (pe_lst pa_nil) (pa_cons (pe_ix ix_list (pv 2) pe_int (fun _ _ => rfl)) pa_nil))) (pe_lst pa_nil) (nomark _)))))))), ?_⟩
  refine ⟨_, rfl, a, 0, ns, rfl, hS, by decide, fun n0 => ⟨n0, 1, rfl, by decide, by decide, fun sp ws G1 s1 hsp sk => ?_⟩⟩
  refine ⟨_, rfl, sp, ws, rfl, hsp, sk, fun r G2 s2 hr2' lt => ?_⟩
  obtain ⟨xs, gr, hd⟩ := lt
  have s12 := Same.trans s1 s2
  have gd := S1.good_letters (ws.map (·.2))
  have lx : xs.length = (S1.letters (ws.map (·.2))).length := by rw [hd.length, List.length_map]
  have lpos : 1 ≤ (S1.letters (ws.map (·.2))).length := by
    rw [S1.letters_length]
    refine mul_pos_from _ 1 (Nat.le_refl _) fun c hc => ?_
    obtain ⟨z, hz, rfl⟩ := List.mem_map.mp hc
    exact (sk.cnt z hz).1
  have lw : ∀ l ∈ S1.letters (ws.map (·.2)), l.length = ws.length := fun l hl => by rw [gd.wide l hl, List.length_map]
  have w1 := sk.lo
  have w3 := sk.hi
  -- the table
  refine ⟨_, rfl, _, rfl, _, rfl, a, _, rfl, s12.seq hS, fun p hp => ?_⟩
  have cl : (cutV (ns.map V.int) (some 1) (some 13)).length ≤ 63 := by
    have z := cutV_length (ns.map V.int) (some 1) (some 13)
    rw [List.length_map] at z
    omega
  have allI : ∀ (i : Nat) (x : V), (cutV (ns.map V.int) (some 1) (some 13))[i]? = some x → ∃ n, x = V.int n := fun i x e => by
    have m : x ∈ cutV (ns.map V.int) (some 1) (some 13) := List.mem_of_getElem? e
    unfold cutV at m
    obtain ⟨n, _, e'⟩ := List.mem_map.mp (List.mem_of_mem_drop (List.mem_of_mem_take m))
    exact ⟨n, e'.symm⟩
  generalize cutV (ns.map V.int) (some 1) (some 13) = all at cl allI ⊢
  refine ⟨p, rfl, ⟨_, SqL.of upd_same⟩, fun D hD => ?_⟩
  generalize hG3 : upd G2 p (.lst all) = G3 at hD ⊢
  have s23 : Same G2 G3 := by rw [← hG3]; exact same_new hp _
  have gp : G3 p = some (.lst all) := by rw [← hG3, upd_same]
  refine comp_list (K := K) (a := p) (xs := all) (fun i ys G => Same G3 G ∧ G D = some (.lst ys) ∧ ∃ T : List Row, Holds K G ys (T.map rowD) ∧ T.length = i ∧ ∀ r ∈ T, RowOk ws.length r) ⟨same_new hD _, upd_same, [], .nil, rfl, fun r hr => nomatch hr⟩ (fun i ys G z => z.2.1) (fun i ys G _ z => SqL.of (z.1 _ _ gp)) ?_ ?_
  · rintro i x ys G hx ⟨sG, gD, T, hT, Tl, Tk⟩
    obtain ⟨n, rfl⟩ := allI i x hx
    have hi : i < all.length := (List.getElem?_eq_some_iff.mp hx).1
    have yl : ys.length = i := by rw [hT.length, List.length_map, Tl]
    refine ⟨small1000 (by omega), ⟨[some _], rfl, rfl⟩, ?_⟩
    refine ⟨_, rfl, _, rfl, n, sp, ws, rfl, hsp.mono (Same.trans (Same.trans s2 s23) sG), sk, fun y ro G' s' hy rk => ?_⟩
    have gD' : G' D = some (.lst ys) := s' _ _ gD
    refine ⟨gD', Same.put (Same.trans sG s') hD _, upd_same, T ++ [ro], ?_, (by rw [List.length_append, Tl]; rfl), fun z hz => ?_⟩
    · rw [List.map_append]
      exact Holds.append (Holds.stay ((Tups.of s').trans (Tups.put gD' _)) (fixL_map rowD_fix _) hT) (.one (Hold.stay (Tups.put gD' _) (rowD_fix _) hy))
    · rcases List.mem_append.mp hz with z1 | z1
      · exact Tk z z1
      · rw [List.mem_singleton.mp z1]
        exact rk
  rintro ys G4 ⟨s34, gD, T, hT, Tl, Tk⟩
  have s24 := Same.trans s23 s34
  -- the other
  refine ⟨_, rfl, D, ys, rfl, .inl (SqL.of gD), fun o ho => ?_⟩
  have Do : D ≠ o := ne_of_none gD ho
  generalize hH1 : upd G4 o (.lst ys) = H1
  have s4H : Same G4 H1 := by rw [← hH1]; exact same_new ho _
  have gD1 : H1 D = some (.lst ys) := s4H _ _ gD
  have go1 : H1 o = some (.lst ys) := by rw [← hH1, upd_same]
  have gr1 : H1 r = some (.lst xs) := s4H _ _ (s24 _ _ gr)
  have hT1 : Holds K H1 ys (T.map rowD) := hT.mono s4H
  have hd1 : Holds K H1 xs ((S1.letters (ws.map (·.2))).map letD) := hd.mono (Same.trans s24 s4H)
  have dT : depL (T.map rowD) ≤ 60 := Nat.le_trans (depL_map rowD_dep T) (by decide)
  have dL : ∀ L : List (List Int), depL (L.map letD) ≤ 60 := fun L => Nat.le_trans (depL_map letD_dep L) (by decide)
  -- letter by letter
  refine ⟨_, rfl, r, rfl, ⟨_, SqL.of gr1⟩, for_list (K := K) (a := r) (xs := xs) (fun i σ G => ∃ v5 v6 v7 : Option V, σ = [some (.ref a), some (.ref sp), some (.ref r), some (.ref D), some (.ref o), v5, v6, v7] ∧ Same H1 G) ⟨none, none, none, rfl, Same.refl _⟩ (fun i σ G _ ⟨_, _, _, _, sG⟩ => SqL.of (sG _ _ gr1)) ?_ ?_⟩
  · rintro i x σ G hx ⟨v5, v6, v7, rfl, sG⟩
    obtain ⟨l, el, hl⟩ := hd1.getm hx
    obtain ⟨b, rfl, hb⟩ := let_open hl
    have ll := lw l (List.mem_of_getElem? el)
    have Tk' : ∀ z ∈ T, RowOk l.length z := fun z hz => by rw [ll]; exact Tk z hz
    have tab : ∀ {G' : Hp}, Same H1 G' → TabAt K G' D T := fun s => ⟨ys, SqL.of (s _ _ gD1), hT1.mono s⟩
    refine ⟨_, rfl, _, rfl, D, b, l, T, rfl, tab sG, hb.same sG, Tk', by omega, by omega, fun r6 G6 s6 h6 lt6 => ?_⟩
    have sG6 := Same.trans sG s6
    obtain ⟨x6, g6, k6⟩ := lt6
    refine ⟨_, rfl, _, rfl, D, b, l, T, rfl, tab sG6, hb.same sG6, Tk', by omega, by omega, fun r7 G7 s7 h7 lt7 => ?_⟩
    have sG7 := Same.trans sG6 s7
    obtain ⟨x7, g7, k7⟩ := lt7
    have r67 : r6 ≠ r7 := ne_of_none g6 h7
    have g67 : G7 r6 = some (.lst x6) := s7 _ _ g6
    have hr6 : H1 r6 = none := Same.free sG h6
    refine ⟨_, rfl, _, _, _, _, rfl, .sql (SqL.of g67), kit_ll K, _, rfl, iteF ⟨_, rfl, _, rfl, r6, r7, _, _, rfl, rfl, SqL.of g67, SqL.of g7, .inr ⟨_, k6.mono s7, k7, dL _, _, rfl, iteF
      ⟨_, rfl, _, rfl, D, o, _, _, rfl, rfl, SqL.of (sG7 _ _ gD1), SqL.of (sG7 _ _ go1), .inr ⟨_, hT1.mono sG7, hT1.mono sG7, dT, _, rfl, iteF ?_⟩⟩⟩⟩⟩
    refine ⟨_, rfl, .inl ⟨rfl, _, SqL.of g67⟩, r6, _, rfl, rfl, g67, ?_⟩
    have s8 : Same H1 (upd G7 r6 (.lst [])) := Same.put sG7 hr6 _
    refine ⟨_, rfl, _, rfl, D, b, l, T, rfl, tab s8, hb.same s8, Tk', by omega, by omega, fun r9 G9 s9 h9 lt9 => ?_⟩
    obtain ⟨x9, g9, k9⟩ := lt9
    have g79 : G9 r7 = some (.lst x7) := s9 _ _ (by rw [upd_ne r67.symm]; exact g7)
    have k79 : Holds K G9 x7 ((due P w l T).map letD) := Holds.stay ((Tups.put g67 _).trans (Tups.of s9)) (fixL_map letD_fix _) k7
    exact ⟨_, rfl, r9, r7, _, _, rfl, rfl, SqL.of g9, SqL.of g79, .inr ⟨_, k9, k79, dL _, _, rfl, iteF ⟨_, _, _, rfl, Same.trans s8 s9⟩⟩⟩
  · rintro σ G ⟨v5, v6, v7, rfl, sG⟩
    cases xs with
    | nil =>
      have z : (0 : Nat) = (S1.letters (ws.map (·.2))).length := lx
      omega
    | cons x0 xr =>
      obtain ⟨l, el, hl⟩ := hd1.getm (i := 0) (x := x0) rfl
      obtain ⟨b, rfl, hb⟩ := let_open hl
      have ll := lw l (List.mem_of_getElem? el)
      refine ⟨(by show 0 ≤ sizeLine; decide), fun e he => ⟨_, rfl, r, _, _, _, rfl, rfl, SqL.of (same_new he _ _ _ (sG _ _ gr1)), at0 _ _, e, b, l, [], rfl, ⟨[], SqL.of upd_same, .nil⟩, (hb.same sG).same (same_new he _), (fun z hz => nomatch hz), by omega, by omega, fun r' G' s' h' lt' => ?_⟩⟩
      obtain ⟨x', g', k'⟩ := lt'
      have e' : x' = [] := by
        have z := k'.length
        exact List.length_eq_zero_iff.mp z
      subst e'
      exact ⟨(by show 0 ≤ sizeLine; decide), fun z hz => ⟨r', z, _, _, rfl, rfl, SqL.of (same_new hz _ _ _ g'), SqL.of upd_same, .inr ⟨[], .nil, .nil, by decide, q _⟩⟩⟩
end
end S62


set_option Elab.async false
set_option maxRecDepth 100000
set_option maxHeartbeats 4000000
/-! the top -/
namespace S62
open PySem L2 PyProof.Rows
theorem all_mk {l : PySem.W.OpenLaw} {w : World} {K : PySem.W.Frag} {h : Heap} {mg : Str → Option Value} {fa f1 f2 f3 f4 f5 f6 f7 f8 f9 f10 f11 f12 : Addr} (X : K.In h) (G : h.Ns mainGlobals mg) (hfa : mg "law" = some (.ref fa))
    {od1 an1 od2 an2 od3 an3 od4 an4 od5 an5 od6 an6 od7 an7 od8 an8 od9 an9 od10 an10 od11 an11 od12 an12 : Option Addr} {sl1 sl2 sl3 sl4 sl5 sl6 sl7 sl8 sl9 sl10 sl11 sl12 : Array (Option Value)} {oc1 kV1 dc1 pm1 cd1 ct1 oc2 kV2 dc2 pm2 cd2 ct2 oc3 kV3 dc3 pm3 cd3 ct3 oc4 kV4 dc4 pm4 cd4 ct4 oc5 kV5 dc5 pm5 cd5 ct5 oc6 kV6 dc6 pm6 cd6 ct6 oc7 kV7 dc7 pm7 cd7 ct7 oc8 kV8 dc8 pm8 cd8 ct8 oc9 kV9 dc9 pm9 cd9 ct9 oc10 kV10 dc10 pm10 cd10 ct10 oc11 kV11 dc11 pm11 cd11 ct11 oc12 kV12 dc12 pm12 cd12 ct12 : Value}
    (a1 : PySem.W.nsIn K mainGlobals "with_put" = some (some (.ref f1)))
    (l1 : K.lookup f1 = some ⟨oc1, od1, .func (PySem.W.fnOf "with_put" "with_put" (defArgs sPut) (defBody sPut) (defScope sPut) .none kV1 dc1 pm1 an1 cd1 ct1), sl1⟩)
    (c1 : PySem.W.codeIn K cd1 "with_put" = true)
    (k1 : PySem.W.keepIn K (.ref f1) = true)
    (a2 : PySem.W.nsIn K mainGlobals "matches" = some (some (.ref f2)))
    (l2 : K.lookup f2 = some ⟨oc2, od2, .func (PySem.W.fnOf "matches" "matches" (defArgs sMatch) (defBody sMatch) (defScope sMatch) .none kV2 dc2 pm2 an2 cd2 ct2), sl2⟩)
    (c2 : PySem.W.codeIn K cd2 "matches" = true)
    (k2 : PySem.W.keepIn K (.ref f2) = true)
    (a3 : PySem.W.nsIn K mainGlobals "by_table" = some (some (.ref f3)))
    (l3 : K.lookup f3 = some ⟨oc3, od3, .func (PySem.W.fnOf "by_table" "by_table" (defArgs sBy) (defBody sBy) (defScope sBy) .none kV3 dc3 pm3 an3 cd3 ct3), sl3⟩)
    (c3 : PySem.W.codeIn K cd3 "by_table" = true)
    (k3 : PySem.W.keepIn K (.ref f3) = true)
    (a4 : PySem.W.nsIn K mainGlobals "_law_cell" = some (some (.ref f4)))
    (l4 : K.lookup f4 = some ⟨oc4, od4, .func (PySem.W.fnOf "_law_cell" "_law_cell" (defArgs sCell) (defBody sCell) (defScope sCell) .none kV4 dc4 pm4 an4 cd4 ct4), sl4⟩)
    (c4 : PySem.W.codeIn K cd4 "_law_cell" = true)
    (k4 : PySem.W.keepIn K (.ref f4) = true)
    (a5 : PySem.W.nsIn K mainGlobals "_law_purse" = some (some (.ref f5)))
    (l5 : K.lookup f5 = some ⟨oc5, od5, .func (PySem.W.fnOf "_law_purse" "_law_purse" (defArgs sPurse) (defBody sPurse) (defScope sPurse) .none kV5 dc5 pm5 an5 cd5 ct5), sl5⟩)
    (c5 : PySem.W.codeIn K cd5 "_law_purse" = true)
    (k5 : PySem.W.keepIn K (.ref f5) = true)
    (a6 : PySem.W.nsIn K mainGlobals "_law_take" = some (some (.ref f6)))
    (l6 : K.lookup f6 = some ⟨oc6, od6, .func (PySem.W.fnOf "_law_take" "_law_take" (defArgs sTake) (defBody sTake) (defScope sTake) .none kV6 dc6 pm6 an6 cd6 ct6), sl6⟩)
    (c6 : PySem.W.codeIn K cd6 "_law_take" = true)
    (k6 : PySem.W.keepIn K (.ref f6) = true)
    (a7 : PySem.W.nsIn K mainGlobals "_law_speech" = some (some (.ref f7)))
    (l7 : K.lookup f7 = some ⟨oc7, od7, .func (PySem.W.fnOf "_law_speech" "_law_speech" (defArgs sSpeech) (defBody sSpeech) (defScope sSpeech) .none kV7 dc7 pm7 an7 cd7 ct7), sl7⟩)
    (c7 : PySem.W.codeIn K cd7 "_law_speech" = true)
    (k7 : PySem.W.keepIn K (.ref f7) = true)
    (a8 : PySem.W.nsIn K mainGlobals "_law_letters" = some (some (.ref f8)))
    (l8 : K.lookup f8 = some ⟨oc8, od8, .func (PySem.W.fnOf "_law_letters" "_law_letters" (defArgs sLett) (defBody sLett) (defScope sLett) .none kV8 dc8 pm8 an8 cd8 ct8), sl8⟩)
    (c8 : PySem.W.codeIn K cd8 "_law_letters" = true)
    (k8 : PySem.W.keepIn K (.ref f8) = true)
    (a9 : PySem.W.nsIn K mainGlobals "_law_part" = some (some (.ref f9)))
    (l9 : K.lookup f9 = some ⟨oc9, od9, .func (PySem.W.fnOf "_law_part" "_law_part" (defArgs sPart) (defBody sPart) (defScope sPart) .none kV9 dc9 pm9 an9 cd9 ct9), sl9⟩)
    (c9 : PySem.W.codeIn K cd9 "_law_part" = true)
    (k9 : PySem.W.keepIn K (.ref f9) = true)
    (a10 : PySem.W.nsIn K mainGlobals "_law_row" = some (some (.ref f10)))
    (l10 : K.lookup f10 = some ⟨oc10, od10, .func (PySem.W.fnOf "_law_row" "_law_row" (defArgs sRow) (defBody sRow) (defScope sRow) .none kV10 dc10 pm10 an10 cd10 ct10), sl10⟩)
    (c10 : PySem.W.codeIn K cd10 "_law_row" = true)
    (k10 : PySem.W.keepIn K (.ref f10) = true)
    (a11 : PySem.W.nsIn K mainGlobals "_law_due" = some (some (.ref f11)))
    (l11 : K.lookup f11 = some ⟨oc11, od11, .func (PySem.W.fnOf "_law_due" "_law_due" (defArgs sDue) (defBody sDue) (defScope sDue) .none kV11 dc11 pm11 an11 cd11 ct11), sl11⟩)
    (c11 : PySem.W.codeIn K cd11 "_law_due" = true)
    (k11 : PySem.W.keepIn K (.ref f11) = true)
    (a12 : PySem.W.nsIn K mainGlobals "law" = some (some (.ref f12)))
    (l12 : K.lookup f12 = some ⟨oc12, od12, .func (PySem.W.fnOf "law" "law" (defArgs sLaw) (defBody sLaw) (defScope sLaw) .none kV12 dc12 pm12 an12 cd12 ct12), sl12⟩)
    (c12 : PySem.W.codeIn K cd12 "law" = true)
    (k12 : PySem.W.keepIn K (.ref f12) = true)
    (ztuple : PySem.W.nsIn K mainGlobals "tuple" = some none)
    (zzip : PySem.W.nsIn K mainGlobals "zip" = some none)
    (zsorted : PySem.W.nsIn K mainGlobals "sorted" = some none)
    (zset : PySem.W.nsIn K mainGlobals "set" = some none)
    (zlen : PySem.W.nsIn K mainGlobals "len" = some none)
    (zrange : PySem.W.nsIn K mainGlobals "range" = some none)
    (zabs : PySem.W.nsIn K mainGlobals "abs" = some none)
    (zint : PySem.W.nsIn K mainGlobals "int" = some none)
    (zmax : PySem.W.nsIn K mainGlobals "max" = some none)
    (zmin : PySem.W.nsIn K mainGlobals "min" = some none)
    (zisinstance : PySem.W.nsIn K mainGlobals "isinstance" = some none)
    (zlist : PySem.W.nsIn K mainGlobals "list" = some none) :
    ∃ fd : FuncData, (∀ (s : Shared) (v : Value), BindsTo s fd ⟨[v], []⟩ [("_law_script", v)]) ∧ ∀ base : Heap, K.In base → base.Ns mainGlobals mg → FnOk l.prog w K mg base CX0 4 fa fd ["_law_script"] (spLaw K) := by
  have e := hfa.symm.trans (PySem.W.mg_of X G a12)
  cases e
  have F1 := fun_mk (st := sPut) l1 c1 k1
  have b1 := F1.binds (ps := ["letter", "values"]) fun _ _ _ _ _ _ us hl => match us, hl with | [_, _], _ => rfl
  have F2 := fun_mk (st := sMatch) l2 c2 k2
  have b2 := F2.binds (ps := ["values", "letter"]) fun _ _ _ _ _ _ us hl => match us, hl with | [_, _], _ => rfl
  have F3 := fun_mk (st := sBy) l3 c3 k3
  have b3 := F3.binds (ps := ["table", "letter"]) fun _ _ _ _ _ _ us hl => match us, hl with | [_, _], _ => rfl
  have F4 := fun_mk (st := sCell) l4 c4 k4
  have b4 := F4.binds (ps := ["_law_script", "_law_k"]) fun _ _ _ _ _ _ us hl => match us, hl with | [_, _], _ => rfl
  have F5 := fun_mk (st := sPurse) l5 c5 k5
  have b5 := F5.binds (ps := ["_law_cell_here"]) fun _ _ _ _ _ _ us hl => match us, hl with | [_], _ => rfl
  have F6 := fun_mk (st := sTake) l6 c6 k6
  have b6 := F6.binds (ps := ["_law_purse_here", "_law_many"]) fun _ _ _ _ _ _ us hl => match us, hl with | [_, _], _ => rfl
  have F7 := fun_mk (st := sSpeech) l7 c7 k7
  have b7 := F7.binds (ps := ["_law_cell_here", "_law_least"]) fun _ _ _ _ _ _ us hl => match us, hl with | [_, _], _ => rfl
  have F8 := fun_mk (st := sLett) l8 c8 k8
  have b8 := F8.binds (ps := ["_law_speech_here"]) fun _ _ _ _ _ _ us hl => match us, hl with | [_], _ => rfl
  have F9 := fun_mk (st := sPart) l9 c9 k9
  have b9 := F9.binds (ps := ["_law_purse_here", "_law_speech_here", "_law_share"]) fun _ _ _ _ _ _ us hl => match us, hl with | [_, _, _], _ => rfl
  have F10 := fun_mk (st := sRow) l10 c10 k10
  have b10 := F10.binds (ps := ["_law_cell_here", "_law_speech_here"]) fun _ _ _ _ _ _ us hl => match us, hl with | [_, _], _ => rfl
  have F11 := fun_mk (st := sDue) l11 c11 k11
  have b11 := F11.binds (ps := ["_law_table", "_law_letter"]) fun _ _ _ _ _ _ us hl => match us, hl with | [_, _], _ => rfl
  have F12 := fun_mk (st := sLaw) l12 c12 k12
  have no : ∀ {x : Str}, PySem.W.nsIn K mainGlobals x = some none → mg x = none := fun z => PySem.W.mg_none_of X G z
  have gl : ∀ {x : Str} {v : Value}, PySem.W.nsIn K mainGlobals x = some (some v) → mg x = some v := fun z => PySem.W.mg_of X G z
  refine ⟨PySem.W.fnOf "law" "law" (defArgs sLaw) (defBody sLaw) (defScope sLaw) .none kV12 dc12 pm12 an12 cd12 ct12, fun s v => .of_eq rfl, fun base _ _ => ?_⟩
  have GU := ok_put (P := l.prog) (w := w) (base := base) F1 (no ztuple) (no zzip)
  have GM := ok_match (P := l.prog) (w := w) (base := base) F2 GU b1 k1 (gl a1)
  have GB := ok_by (P := l.prog) (w := w) (base := base) F3 GM b2 k2 (gl a2) GU b1 k1 (gl a1) (no zsorted) (no zset)
  have GC := ok_cell (P := l.prog) (w := w) (base := base) F4 (no zlen)
  have GP := ok_purse (P := l.prog) (w := w) (base := base) F5 (no zrange) (no zabs)
  have GT := ok_take (P := l.prog) (w := w) (base := base) F6 (no zint)
  have GS := ok_speech (P := l.prog) (w := w) (base := base) F7 GP b5 k5 (gl a5) GT b6 k6 (gl a6) (no zrange) (no zmax) (no zmin) (no ztuple)
  have GL := ok_lett (P := l.prog) (w := w) (base := base) F8 (no zrange)
  have GQ := ok_part (P := l.prog) (w := w) (base := base) F9 GT b6 k6 (gl a6) (no zint) (no ztuple)
  have GR := ok_row (P := l.prog) (w := w) (base := base) F10 GP b5 k5 (gl a5) GT b6 k6 (gl a6) GQ b9 k9 (gl a9) (no zrange) (no ztuple)
  have GD := ok_due (P := l.prog) (w := w) (base := base) F11 (no zlen) (no zrange) (no ztuple) (no zint) (no zsorted) (no zset)
  exact ok_law F12 GC b4 k4 (gl a4) GS b7 k7 (gl a7) GL b8 k8 (gl a8) GR b10 k10 (gl a10) GB b3 k3 (gl a3) GD b11 k11 (gl a11) (no zisinstance) (no zlist)
theorem walk {l : PySem.W.OpenLaw} {q : Program} {loose : List Str} {XP : (Str → Option Value) → Heap → Prop} {YP : World → Heap → Prop} {d : DefRec} {K : Params → PySem.W.Frag} (hn : l.most = some 63) (hdf : d.params.defaults = [])
    (hY : ∀ (w : World) (h : Heap), YP w h → (K w.params).In h)
    (F : ∀ (w : World) (mg : Str → Option Value) (fa : Addr) (h : Heap), (K w.params).In h → h.Ns mainGlobals mg → mg d.name = some (.ref fa) →
      ∃ fd : FuncData, (∀ (s : Shared) (u : Value), BindsTo s fd ⟨[u], []⟩ [("_law_script", u)]) ∧ ∀ base : Heap, (K w.params).In base → base.Ns mainGlobals mg → FnOk l.prog w (K w.params) mg base CX0 4 fa fd ["_law_script"] (spLaw (K w.params))) :
    PySem.W.WalkO q loose XP YP l.row.toRowW d [] (fun f vs => PySem.call f vs) :=
  L2.walk_of (n := 63) (k := 4) (x := "_law_script") (CX := fun _ => CX0) (sp := fun w => spLaw (K w.params)) hn (by decide) hdf ⟨rfl, by decide, by decide⟩ hY F (fun _ _ a ns hl _ hS => ⟨a, ns, rfl, hS, hl, fun _ => rfl⟩) fun _ _ _ _ _ z => z
end S62


set_option Elab.async false
set_option maxRecDepth 100000
set_option maxHeartbeats 4000000
open PySem PySem.W PyProof.Rows
set_option maxRecDepth 100000 in
set_option maxHeartbeats 0 in
theorem PySem.Challenge.cw_switchsay_k62_any_table_holds : PySem.Challenge.rw_switchsay_k62_any_table.Holds := by
  w_on; o_law; k_head; (case hw => w_witness2)
  k_fill
  refine S62.walk (l := PySem.Challenge.rw_switchsay_k62_any_table) rfl rfl (fun w h Y => PySem.W.kIn_of Y) ?F
  case F =>
    intro w mg fa h KX G hmg
    refine' S62.all_mk KX G hmg ?a1 ?l1 ?c1 ?k1 ?a2 ?l2 ?c2 ?k2 ?a3 ?l3 ?c3 ?k3 ?a4 ?l4 ?c4 ?k4 ?a5 ?l5 ?c5 ?k5 ?a6 ?l6 ?c6 ?k6 ?a7 ?l7 ?c7 ?k7 ?a8 ?l8 ?c8 ?k8 ?a9 ?l9 ?c9 ?k9 ?a10 ?l10 ?c10 ?k10 ?a11 ?l11 ?c11 ?k11 ?a12 ?l12 ?c12 ?k12 ?ztuple ?zzip ?zsorted ?zset ?zlen ?zrange ?zabs ?zint ?zmax ?zmin ?zisinstance ?zlist
    (case a1 => k_is)
    (case l1 => k_is)
    (case c1 => k_is)
    (case k1 => k_is)
    (case a2 => k_is)
    (case l2 => k_is)
    (case c2 => k_is)
    (case k2 => k_is)
    (case a3 => k_is)
    (case l3 => k_is)
    (case c3 => k_is)
    (case k3 => k_is)
    (case a4 => k_is)
    (case l4 => k_is)
    (case c4 => k_is)
    (case k4 => k_is)
    (case a5 => k_is)
    (case l5 => k_is)
    (case c5 => k_is)
    (case k5 => k_is)
    (case a6 => k_is)
    (case l6 => k_is)
    (case c6 => k_is)
    (case k6 => k_is)
    (case a7 => k_is)
    (case l7 => k_is)
    (case c7 => k_is)
    (case k7 => k_is)
    (case a8 => k_is)
    (case l8 => k_is)
    (case c8 => k_is)
    (case k8 => k_is)
    (case a9 => k_is)
    (case l9 => k_is)
    (case c9 => k_is)
    (case k9 => k_is)
    (case a10 => k_is)
    (case l10 => k_is)
    (case c10 => k_is)
    (case k10 => k_is)
    (case a11 => k_is)
    (case l11 => k_is)
    (case c11 => k_is)
    (case k11 => k_is)
    (case a12 => k_is)
    (case l12 => k_is)
    (case c12 => k_is)
    (case k12 => k_is)
    (case ztuple => k_is)
    (case zzip => k_is)
    (case zsorted => k_is)
    (case zset => k_is)
    (case zlen => k_is)
    (case zrange => k_is)
    (case zabs => k_is)
    (case zint => k_is)
    (case zmax => k_is)
    (case zmin => k_is)
    (case zisinstance => k_is)
    (case zlist => k_is)

