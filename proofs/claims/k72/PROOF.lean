import PyProof.Rows.All
import Wide.All
import OpenK.AllK
import Wide.FinOn
import Lean
import PyProof.EqAt
import PyProof.EqKinds
import PyProof.TupleCall
import PyProof.ZipIter
import PyProof.Rows.ZipGen
import PyProof.ConsumeWalk
import PyProof.SumWalk
import PyProof.StationsW
import PyProof.ExcClass2
import PyProof.InstStore
import PyProof.ExcArgsOwn
import PyProof.RulesAs
import PyProof.RulesDel
import PyProof.IsiBase
import PyProof.InstStoreFacts
import PyProof.ExcAttrAll.ValueError
import PyProof.ReprStr
import PyProof.StrLawsRepr
import KE.KTryMore
import PyProof.EnumMake
import PyProof.EnumFor
import PyProof.NeKinds
import PyProof.ListMulRoad
import KE.RegKIsAll
import KE.RegKTryMore
import PySem.Challenge.RW_switchsay_k72_no_net
-- CHANGE: your row's module here, as the last of these rows
set_option Elab.async false
set_option linter.all false
set_option maxRecDepth 100000
/-! THE HAND LAYER, for ints, bools, texts, own classes, LISTS and tuples (index, slices, in, append, pop ..), calls, loops. Paste it whole ahead of your own text; what your proof does not reach may be deleted. -/
namespace L2
open PySem PySem.Spec PyProof.Rows

/-- a key: an int or a str -/
abbrev Key := Sum Int Str
def keyIs : Key → Value → Bool
  | .inl k, v => Value.isInt k v
  | .inr x, v => Value.isStrOf x v
def keyH (w : World) : Key → Int
  | .inl k => hashInt k
  | .inr x => hashStr w x
theorem keyIs_shape : ∀ {k : Key} {v : Value}, keyIs k v = true → (∃ i t, k = Sum.inl i ∧ v = Value.int i t) ∨ (∃ x t, k = Sum.inr x ∧ v = Value.str x t)
  | .inl i, v, h => by
    obtain ⟨t, e⟩ := Value.isInt_shape (k := i) (v := v) h
    exact .inl ⟨i, t, rfl, e⟩
  | .inr x, v, h => by
    obtain ⟨t, e⟩ := Value.isStrOf_shape (x := x) (v := v) h
    exact .inr ⟨x, t, rfl, e⟩
theorem key_ll (a b : Int) : decide ((Sum.inl a : Key) = Sum.inl b) = (a == b) := by
  by_cases e : a = b
  · subst e; simp
  · have h : ¬ (Sum.inl a : Key) = Sum.inl b := fun q => e (Sum.inl.inj q)
    rw [decide_eq_false h]
    exact (beq_eq_false_iff_ne.mpr e).symm
theorem key_rr (a b : Str) : decide ((Sum.inr a : Key) = Sum.inr b) = decide (a = b) := by
  by_cases e : a = b
  · subst e; simp
  · have h : ¬ (Sum.inr a : Key) = Sum.inr b := fun q => e (Sum.inr.inj q)
    rw [decide_eq_false h, decide_eq_false e]
theorem key_lr (a : Int) (b : Str) : decide ((Sum.inl a : Key) = Sum.inr b) = false := decide_eq_false (fun q => nomatch q)
theorem key_rl (a : Str) (b : Int) : decide ((Sum.inr a : Key) = Sum.inl b) = false := decide_eq_false (fun q => nomatch q)

def mixKind (prog : Program) (w : World) : PySem.KeyKind prog w Key where
  is := keyIs
  hash := keyH w
  inj := fun v a b ha hb => by
    rcases keyIs_shape ha with ⟨i, t, rfl, rfl⟩ | ⟨x, t, rfl, rfl⟩
    · rcases keyIs_shape hb with ⟨j, u, rfl, e⟩ | ⟨y, u, rfl, e⟩
      · injection e with e1 _; rw [e1]
      · exact nomatch e
    · rcases keyIs_shape hb with ⟨j, u, rfl, e⟩ | ⟨y, u, rfl, e⟩
      · exact nomatch e
      · injection e with e1 _; rw [e1]
  byValue := fun k v h => by
    rcases keyIs_shape h with ⟨i, t, rfl, rfl⟩ | ⟨x, t, rfl, rfl⟩ <;> rfl
  pyHash := fun hv h => by
    rcases keyIs_shape hv with ⟨i, t, rfl, rfl⟩ | ⟨x, t, rfl, rfl⟩
    · exact wpAny_pyHash_int h
    · exact wpAny_pyHash_str h
  eqBool := fun hu hv h => by
    rcases keyIs_shape hu with ⟨i, t, rfl, rfl⟩ | ⟨x, t, rfl, rfl⟩
    · rcases keyIs_shape hv with ⟨j, u, rfl, rfl⟩ | ⟨y, u, rfl, rfl⟩
      · rw [key_ll] at h; exact wpAny_eqBool_int h
      · rw [key_lr] at h; exact SeqAt.EqAt.int_str i t y u _ _ _ _ h
    · rcases keyIs_shape hv with ⟨j, u, rfl, rfl⟩ | ⟨y, u, rfl, rfl⟩
      · rw [key_rl] at h; exact SeqAt.EqAt.str_int x t j u _ _ _ _ h
      · rw [key_rr] at h; exact wpAny_eqBool_str h
  «strs» := fun k x t v h => by
    rcases keyIs_shape h with ⟨i, u, rfl, e⟩ | ⟨y, u, rfl, e⟩
    · exact nomatch e
    · injection e with e1 _
      subst e1
      cases v <;> rfl

end L2

namespace L2
open PySem PySem.Spec PyProof.Rows

/-- a value, without the heap -/
inductive V where
  | non | bl (b : Bool) | int (i : Int) | str (x : Str) | byt (b : Array UInt8) | flt (b : UInt64) | ref (a : Addr) | ty (n : String)
  deriving DecidableEq

def RelV : V → Value → Prop
  | .non, u => u = Value.none
  | .bl b, u => u = Value.bool b
  | .int i, u => ∃ t, u = Value.int i t
  | .str x, u => ∃ t, u = Value.str x t
  | .byt b, u => ∃ t, u = Value.bytes b t
  | .flt b, u => ∃ t, u = Value.float b t
  | .ref a, u => u = Value.ref a
  | .ty n, u => u = Value.type n

abbrev Vals : List V → List Value → Prop := Paired RelV
theorem Vals.length {xs : List V} {us : List Value} (r : Vals xs us) : xs.length = us.length := Paired.length r
theorem Vals.get : ∀ {xs : List V} {us : List Value} {i : Nat} {x : V}, Vals xs us → xs[i]? = some x → ∃ u, us[i]? = some u ∧ RelV x u
  | _, _, _, _, .nil, e => by simp at e
  | _, _, 0, _, .cons r _, e => by simp at e; subst e; exact ⟨_, rfl, r⟩
  | _, _, i + 1, x, .cons _ t, e => by
    obtain ⟨u, h1, h2⟩ := Vals.get (i := i) (x := x) t (by simpa using e)
    exact ⟨u, by simpa using h1, h2⟩
theorem Vals.set {x : V} {u : Value} (r : RelV x u) : ∀ {xs : List V} {us : List Value} (i : Nat), Vals xs us → Vals (xs.set i x) (us.set i u)
  | _, _, _, .nil => .nil
  | _, _, 0, .cons _ t => .cons r t
  | _, _, i + 1, .cons q t => .cons q (Vals.set r i t)
theorem Vals.append : ∀ {xs ys : List V} {us ws : List Value}, Vals xs us → Vals ys ws → Vals (xs ++ ys) (us ++ ws)
  | _, _, _, _, .nil, s => s
  | _, _, _, _, .cons r t, s => .cons r (Vals.append t s)
theorem Vals.take : ∀ {xs : List V} {us : List Value} (n : Nat), Vals xs us → Vals (xs.take n) (us.take n)
  | _, _, 0, _ => .nil
  | _, _, _ + 1, .nil => .nil
  | _, _, n + 1, .cons r t => .cons r (Vals.take n t)
theorem Vals.drop : ∀ {xs : List V} {us : List Value} (n : Nat), Vals xs us → Vals (xs.drop n) (us.drop n)
  | _, _, 0, r => r
  | _, _, _ + 1, .nil => .nil
  | _, _, n + 1, .cons _ t => Vals.drop n t

def RelO : Option V → Option Value → Prop
  | some v, some u => RelV v u
  | none, none => True
  | _, _ => False
def KV {κ : Type} : List (κ × V) → List (κ × Value) → Prop := Paired fun (p : κ × V) (q : κ × Value) => p.1 = q.1 ∧ RelV p.2 q.2

/-- a key of a dict (00_mix): an int or a text -/
def kV : Key → V
  | .inl i => .int i
  | .inr x => .str x

/-- what stands at a tracked address -/
inductive HO where
  /-- a list -/
  | lst (xs : List V)
  /-- a tuple (never changes) -/
  | tup (xs : List V)
  /-- a dict whose keys are ints and texts; one whose keys are tuples of ints and texts (the empty one is both) -/
  | dK (kvs : List (Key × V)) | dT (kvs : List (List Key × V))
  /-- a set of ints: its members, its size -/
  | set (S : Int → Bool) (n : Nat)
  /-- an instance of the class at C, its dict at dx, its attributes -/
  | ins (C dx : Addr) (fs : List (Str × V))
  /-- the dict of the instance at x -/
  | own (x : Addr)
  /-- the dict of an exception -/
  | xd (fs : List (Str × V))
  /-- a bound method, f of x -/
  | met (f x : Addr)
  /-- a range object lo, lo + 1, .. below hi -/
  | rng (lo hi : Int)
  /-- a thing that is known to the object (the script; a dict while a loop walks it): read, never written while it is so -/
  | frz (o : Obj) (u : HO)
  /-- a code object's table -/
  | tbl (ps : Array Value)
  /-- any other thing, by what is true of its one object (a def of one's own: SetO a S n := HO.ext fun h => ..) -/
  | ext (φ : Heap → Prop)

abbrev Hp := Addr → Option HO
def upd (H : Hp) (a : Addr) (o : HO) : Hp := fun b => if b = a then some o else H b
theorem upd_same {H : Hp} {a : Addr} {o : HO} : upd H a o a = some o := by unfold upd; rw [if_pos rfl]
theorem upd_ne {H : Hp} {a b : Addr} {o : HO} (h : b ≠ a) : upd H a o b = H b := by unfold upd; rw [if_neg h]
/-- two objects of different content stand apart -/
theorem ne_of {H : Hp} {a b : Addr} {o u : HO} (h : H a = some o) (h' : H b = some u) (d : o ≠ u) : a ≠ b := by
  intro e; subst e; rw [h] at h'; exact d (Option.some.inj h')
theorem ne_of_none {H : Hp} {a b : Addr} {o : HO} (h : H a = some o) (h' : H b = none) : a ≠ b := by
  intro e; subst e; rw [h] at h'; cases h'

section
variable (P : Program) (w : World)
def ObjOk (H : Hp) (h : Heap) (a : Addr) : HO → Prop
  | .lst xs => xs.length ≤ sizeLine ∧ ∃ (its : List Value) (n : Nat), Vals xs its ∧ h.get? a = some { cls := .type "list", data := .seq its.toArray n }
  | .tup xs => xs.length ≤ sizeLine ∧ ∃ its : List Value, Vals xs its ∧ IsTup h a its.toArray
  | .dK kvs => kvs.length ≤ sizeLine ∧ (a == sysModules) = false ∧ ∃ vs, KV kvs vs ∧ h.DictOf (mixKind P w) a vs
  | .dT kvs => kvs.length ≤ sizeLine ∧ (a == sysModules) = false ∧ ∃ xs : List (List Key × Addr × Value),
      Paired (fun (p : List Key × V) (q : List Key × Addr × Value) => p.1 = q.1 ∧ H q.2.1 = some (.tup (p.1.map kV)) ∧ RelV p.2 q.2.2) kvs xs ∧
      ∃ o es ep, h.get? a = some o ∧ o.ExactDict ∧ o.data = .dict es ep ∧ es.toList = xs.map (entryOfKey (tupleKind (mixKind P w))) ∧ (xs.map (·.1)).Nodup
  | .set S n => h.SetOf (intKind P w) a S n
  | .ins C dx fs => H dx = some (.own a) ∧ fs.length ≤ 1000 ∧ dx ≠ a ∧ h.get? a = some (PySem.W.instObj C dx) ∧
      ∃ mA, h.Ns1 dx mA ∧ (∀ f, RelO (fs.lookup f) (mA f)) ∧ PySem.Within mA (fs.map (·.1))
  | .own _ => ∃ o, h.get? a = some o
  | .xd fs => ∃ mA, h.Ns1 a mA ∧ ∀ f, RelO (fs.lookup f) (mA f)
  | .rng lo hi => ∃ t u v, h.get? a = some { cls := .type "range", data := .fields #[.int lo t, .int hi u, .int 1 v] }
  | .frz o u => h.get? a = some o ∧ ObjOk H h a u
  | .tbl ps => h.get? a = some { cls := .none, data := .fields ps }
  | .met f x => h.get? a = some (PySem.W.methodObj (.ref f) (.ref x))
  | .ext φ => φ h ∧ (∃ o, h.get? a = some o) ∧ ∀ h1 h2 : Heap, φ h1 → (∀ o, h1.get? a = some o → h2.get? a = some o) → φ h2
/-- the abstract heap is held -/
def HOk (H : Hp) (h : Heap) : Prop := ∀ a o, H a = some o → ObjOk P w H h a o
end

section
variable {P : Program} {w : World} {H H' : Hp} {h h' : Heap} {a : Addr} {o : HO}
theorem ObjOk.lt (x : ObjOk P w H h a o) : a < h.objs.size := by
  cases o with
  | lst xs => obtain ⟨_, _, _, _, e⟩ := x; exact Heap.lt_size e
  | tup xs => obtain ⟨_, _, _, p⟩ := x; exact p.lt
  | dK kvs => obtain ⟨_, _, _, _, o, _, _, e, _⟩ := x; exact Heap.lt_size e
  | dT kvs => obtain ⟨_, _, _, _, o, _, _, e, _⟩ := x; exact Heap.lt_size e
  | set S n => obtain ⟨o, _, _, _, e, _⟩ := x; exact Heap.lt_size e
  | ins C dx fs => obtain ⟨_, _, _, e, _⟩ := x; exact Heap.lt_size e
  | own y => obtain ⟨_, e⟩ := x; exact Heap.lt_size e
  | xd fs => obtain ⟨_, ⟨_, _, _, e, _⟩, _⟩ := x; exact Heap.lt_size e
  | rng lo hi => obtain ⟨_, _, _, e⟩ := x; exact Heap.lt_size e
  | frz ob u => obtain ⟨e, _⟩ := x; exact Heap.lt_size e
  | tbl ps => exact Heap.lt_size (show h.get? a = some _ from x)
  | met f y => exact Heap.lt_size (show h.get? a = some _ from x)
  | ext φ => obtain ⟨_, ⟨_, e⟩, _⟩ := x; exact Heap.lt_size e
theorem Paired.mapP {α β : Type} {F G : α → β → Prop} : ∀ {l₁ : List α} {l₂ : List β}, Paired F l₁ l₂ → (∀ a b, F a b → G a b) → Paired G l₁ l₂
  | _, _, .nil, _ => .nil
  | _, _, .cons r t, f => .cons (f _ _ r) (Paired.mapP t f)
/-- what an object's description leans on: its own object, its own dict, the tuples -/
theorem ObjOk.stay (x : ObjOk P w H h a o) (k : ∀ b u, (b = a ∨ H b = some (.own a)) → h.get? b = some u → h'.get? b = some u)
    (ho : ∀ b, H b = some (.own a) → H' b = some (.own a)) (ht : ∀ b xs, H b = some (.tup xs) → H' b = some (.tup xs)) : ObjOk P w H' h' a o := by
  induction o with
  | lst xs => obtain ⟨z, its, n, r, e⟩ := x; exact ⟨z, its, n, r, k _ _ (.inl rfl) e⟩
  | tup xs => obtain ⟨z, its, r, ob, e, c⟩ := x; exact ⟨z, its, r, ob, k _ _ (.inl rfl) e, c⟩
  | dK kvs => obtain ⟨z, y, vs, r, ob, es, ep, e, c⟩ := x; exact ⟨z, y, vs, r, ob, es, ep, k _ _ (.inl rfl) e, c⟩
  | dT kvs =>
    obtain ⟨z, y, xs, r, ob, es, ep, e, c⟩ := x
    exact ⟨z, y, xs, Paired.mapP r fun p q z => ⟨z.1, ht _ _ z.2.1, z.2.2⟩, ob, es, ep, k _ _ (.inl rfl) e, c⟩
  | set S n => obtain ⟨ob, es, ep, t, e, c⟩ := x; exact ⟨ob, es, ep, t, k _ _ (.inl rfl) e, c⟩
  | ins C dx fs =>
    obtain ⟨d, z, ne, e, mA, ⟨od, es, ep, e2, c⟩, r⟩ := x
    exact ⟨ho _ d, z, ne, k _ _ (.inl rfl) e, mA, ⟨od, es, ep, k _ _ (.inr d) e2, c⟩, r⟩
  | own y => obtain ⟨ob, e⟩ := x; exact ⟨ob, k _ _ (.inl rfl) e⟩
  | xd fs => obtain ⟨mA, ⟨od, es, ep, e, c⟩, r⟩ := x; exact ⟨mA, ⟨od, es, ep, k _ _ (.inl rfl) e, c⟩, r⟩
  | rng lo hi => obtain ⟨t, u, v, e⟩ := x; exact ⟨t, u, v, k _ _ (.inl rfl) e⟩
  | frz ob u ih => obtain ⟨e, q⟩ := x; exact ⟨k _ _ (.inl rfl) e, ih q⟩
  | tbl ps =>
    have e : h.get? a = some { cls := .none, data := .fields ps } := x
    show h'.get? a = some { cls := .none, data := .fields ps }
    exact k a _ (.inl rfl) e
  | met f y =>
    have e : h.get? a = some (PySem.W.methodObj (.ref f) (.ref y)) := x
    show h'.get? a = some (PySem.W.methodObj (.ref f) (.ref y))
    exact k a _ (.inl rfl) e
  | ext φ => obtain ⟨p, ⟨o, e⟩, st⟩ := x; exact ⟨st _ _ p fun o q => k _ _ (.inl rfl) q, ⟨o, k _ _ (.inl rfl) e⟩, st⟩
theorem HOk.lt (x : HOk P w H h) (e : H a = some o) : a < h.objs.size := (x a o e).lt
theorem HOk.fresh (x : HOk P w H h) (e : h.objs.size ≤ a) : H a = none := by
  cases q : H a with
  | none => rfl
  | some u => exact absurd (Nat.lt_of_lt_of_le (x.lt q) e) (Nat.lt_irrefl _)
/-- every object of the heap is kept -/
theorem HOk.kept (x : HOk P w H h) (k : ∀ b u, h.get? b = some u → h'.get? b = some u) : HOk P w H h' := fun a o e =>
  (x a o e).stay (fun b u _ q => k b u q) (fun _ q => q) fun _ _ q => q
/-- a new object is laid and tracked -/
theorem HOk.laid (x : HOk P w H h) (k : ∀ b u, h.get? b = some u → h'.get? b = some u) (hp : h.objs.size ≤ a) (new : ObjOk P w (upd H a o) h' a o) : HOk P w (upd H a o) h' := fun b u e => by
  have hn := x.fresh hp
  by_cases hb : b = a
  · subst hb; rw [upd_same] at e; cases e; exact new
  · rw [upd_ne hb] at e
    exact (x b u e).stay (fun c v _ q => k c v q) (fun c q => by rw [upd_ne (ne_of_none q hn)]; exact q) fun c xs q => by rw [upd_ne (ne_of_none q hn)]; exact q
end

/-- what may be read as u: it is u, or a known u -/
def Rd (H : Hp) (a : Addr) (u : HO) : Prop := H a = some u ∨ ∃ o, H a = some (.frz o u)
theorem Rd.ok {P : Program} {w : World} {H : Hp} {h : Heap} {a : Addr} {u : HO} (r : Rd H a u) (x : HOk P w H h) : ObjOk P w H h a u := by
  rcases r with r | ⟨o, r⟩
  · exact x a u r
  · obtain ⟨_, q⟩ := x a _ r
    exact q
/-- what may be written -/
def Mut : Option HO → Prop
  | some (.lst _) => True
  | some (.dK _) => True
  | some (.dT _) => True
  | some (.set _ _) => True
  | some (.ins _ _ _) => True
  | some (.ext _) => True
  | _ => False
section
variable {P : Program} {w : World} {H : Hp} {h h' : Heap} {x e : Addr} {o' : HO}
/-- the object at e is changed: x itself, or the dict of the instance x -/
theorem HOk.write (ok : HOk P w H h) (mu : Mut (H x)) (he : e = x ∨ H e = some (.own x)) (k : ∀ b u, b ≠ e → h.get? b = some u → h'.get? b = some u) (heo : ∃ u, h'.get? e = some u)
    (new : ObjOk P w (upd H x o') h' x o') : HOk P w (upd H x o') h' := fun b u q => by
  have nown : ∀ c y, H c = some (.own y) → c ≠ x := fun c y r z => by subst z; rw [r] at mu; exact mu
  have ntup : ∀ c xs, H c = some (.tup xs) → c ≠ x := fun c xs r z => by subst z; rw [r] at mu; exact mu
  by_cases hb : b = x
  · subst hb; rw [upd_same] at q; cases q; exact new
  · rw [upd_ne hb] at q
    by_cases hbe : b = e
    · have q' : H b = some (.own x) := by
        rcases he with z | z
        · exact absurd (hbe.trans z) hb
        · rw [hbe]; exact z
      rw [q] at q'; cases q'
      obtain ⟨v, hv⟩ := heo
      exact ⟨v, by rw [hbe]; exact hv⟩
    · refine (ok b u q).stay (fun c v hc r => k c v ?_ r) (fun c r => by rw [upd_ne (nown c b r)]; exact r) fun c xs r => by rw [upd_ne (ntup c xs r)]; exact r
      rcases hc with rfl | hc
      · exact hbe
      · rintro rfl
        rcases he with z | z
        · exact nown c b hc z
        · rw [hc] at z; cases z; exact hb rfl
end

/-! ### kept unless tracked; of the frames at fs (the callers') the slots may change (an exception that passes writes there); of the records at ex (iterators) nothing is said -/
structure Un (fs ex : List Addr) (H H' : Hp) (h h' : Heap) : Prop where
  keep : ∀ b o, h.get? b = some o → H b = none → b ∉ fs → b ∉ ex → h'.get? b = some o
  slot : ∀ b o, h.get? b = some o → H b = none → b ∈ fs → b ∉ ex → ∃ sl, h'.get? b = some { o with slots := sl }
  free : ∀ b o, h.get? b = some o → H b = none → b ∉ ex → H' b = none
  there : ∀ b o, h.get? b = some o → b ∉ ex → ∃ o', h'.get? b = some o'
  tups : ∀ b xs, H b = some (.tup xs) → H' b = some (.tup xs)
  frzs : ∀ b o u, H b = some (.frz o u) → H' b = some (.frz o u)
  tbls : ∀ b ps, H b = some (.tbl ps) → ∃ more, H' b = some (.tbl (ps ++ more))
section
variable {fs fs' ex ex' : List Addr} {H H1 H2 : Hp} {h h1 h2 h' : Heap} {a x e : Addr} {o : HO}
theorem Un.any (u : Un fs ex H H1 h h1) {b : Addr} {ob : Obj} (q : h.get? b = some ob) (n : H b = none) (hx : b ∉ ex) : ∃ sl, h1.get? b = some { ob with slots := sl } := by
  by_cases hb : b ∈ fs
  · exact u.slot b ob q n hb hx
  · exact ⟨ob.slots, u.keep b ob q n hb hx⟩
theorem Un.kept (k : ∀ b u, h.get? b = some u → h'.get? b = some u) : Un fs ex H H h h' :=
  ⟨fun b ob q _ _ _ => k b ob q, fun b ob q _ _ _ => ⟨ob.slots, k b ob q⟩, fun _ _ _ n _ => n, fun b ob q _ => ⟨ob, k b ob q⟩, fun _ _ q => q, fun _ _ _ q => q, fun _ ps q => ⟨#[], by rw [q]; simp⟩⟩
theorem Un.refl : Un fs ex H H h h := Un.kept fun _ _ q => q
theorem Un.laid (k : ∀ b u, h.get? b = some u → h'.get? b = some u) (hp : h.objs.size ≤ a) (hn : H a = none) : Un fs ex H (upd H a o) h h' where
  keep := fun b u q _ _ _ => k b u q
  slot := fun b u q _ _ _ => ⟨u.slots, k b u q⟩
  free := fun b u q n _ => by rw [upd_ne (Nat.ne_of_lt (Nat.lt_of_lt_of_le (Heap.lt_size q) hp))]; exact n
  there := fun b u q _ => ⟨u, k b u q⟩
  tups := fun b xs q => by rw [upd_ne (ne_of_none q hn)]; exact q
  frzs := fun b u xs q => by rw [upd_ne (ne_of_none q hn)]; exact q
  tbls := fun b ps q => ⟨#[], by rw [upd_ne (ne_of_none q hn), q]; simp⟩
theorem Un.write (mu : Mut (H x)) (he : e = x ∨ H e = some (.own x)) (k : ∀ b u, b ≠ e → h.get? b = some u → h'.get? b = some u) (heo : ∃ u, h'.get? e = some u) : Un fs ex H (upd H x o) h h' := by
  have hx : ∀ b, H b = none → b ≠ x := fun b n z => by subst z; rw [n] at mu; exact mu
  have hb : ∀ b, H b = none → b ≠ e := fun b n z => by
    subst z
    rcases he with r | r
    · exact hx b n r
    · rw [n] at r; cases r
  have hm : ∀ b u, H b = some u → ¬ Mut (some u) → b ≠ x := fun b u q nm z => by subst z; rw [q] at mu; exact nm mu
  refine ⟨fun b u q n _ _ => k b u (hb b n) q, fun b u q n _ _ => ⟨u.slots, k b u (hb b n) q⟩, fun b u q n _ => by rw [upd_ne (hx b n)]; exact n, fun b u q _ => ?_,
    fun b xs q => by rw [upd_ne (hm b _ q fun z => z)]; exact q, fun b u xs q => by rw [upd_ne (hm b _ q fun z => z)]; exact q, fun b ps q => ⟨#[], by rw [upd_ne (hm b _ q fun z => z), q]; simp⟩⟩
  by_cases hbe : b = e
  · subst hbe; exact heo
  · exact ⟨u, k b u hbe q⟩
end

/-! ### the heap without what is tracked -/
def trk (h : Heap) (H : Hp) : List Addr := (List.range h.objs.size).filter fun a => (H a).isSome
def hidT (h : Heap) (H : Hp) : Heap := PySem.W.hideAll h (trk h H)
theorem hidT_size (h : Heap) (H : Hp) : (hidT h H).objs.size = h.objs.size := PySem.W.hideAll_size _ _
theorem hidT_get {h : Heap} {H : Hp} {b : Addr} {o : Obj} (e : h.get? b = some o) (n : H b = none) : (hidT h H).get? b = some o :=
  PySem.W.hideAll_get _ e fun hm => by
    have q : (H b).isSome = true := (List.mem_filter.mp hm).2
    rw [n] at q; simp at q
theorem of_hidT {h : Heap} {H : Hp} {b : Addr} {o : Obj} (e : (hidT h H).get? b = some o) : h.get? b = some o ∧ H b = none := by
  have e' : h.get? b = some o := PySem.W.of_hideAll (trk h H) e
  refine ⟨e', ?_⟩
  cases q : H b with
  | none => rfl
  | some x =>
    have hm : b ∈ trk h H := List.mem_filter.mpr ⟨List.mem_range.mpr (Heap.lt_size e'), by simp [q]⟩
    have z : (hidT h H).get? b = none := PySem.W.hideAll_none (trk h H) hm
    rw [z] at e; cases e

/-! ### OpenK's ledger, filled with every new object but one -/
def allNews (g h : Heap) (L : Addr) : List (Addr × Obj) := (List.range h.objs.size).filterMap fun a => if a = L ∨ (g.get? a).isSome = true then none else (h.get? a).map fun o => (a, o)
def rest (g h : Heap) (L d : Addr) : List (Addr × Obj) := (allNews g h L).filter fun p => decide (p.1 ≠ d)
end L2

namespace L2
open PySem PySem.Spec PyProof.Rows

/-- the module's facts, over the base: the heap at the law's entry without what is tracked there -/
structure Mod (K : PySem.W.Frag) (mg : Str → Option Value) (base : Heap) : Prop where
  kin : K.In base
  glob : base.Ns mainGlobals mg
  blt : ∃ mb, base.Ns builtinsNs mb ∧ ∀ x : Str, x ≠ "__name__" → mb x = bootBuiltins x
  nolimit : base.NoLimit

/-- the context: a def's body (or a comprehension's block) running. base: fixed through the whole law; s₀, H₀: the entry; outer: the frames whose slots others may change (a def's callers); stack: all frames that run;
   ex: iterators that were made ahead of the entry and are walked here (a comprehension's); fn: the names whose cells were made at the entry (a def: all; a comprehension's block: its own); calm: not within an except suite; pn: pins that every state bears; xe: what is wanted of an exception that leaves the code -/
structure Cx where
  prog : Program
  w : World
  K : PySem.W.Frag
  mg : Str → Option Value
  base : Heap
  A : Around
  N : List Str
  s₀ : Shared
  H₀ : Hp
  env : Env
  outer : List Env
  stack : List Env
  ex : List Addr
  fn : Str → Bool
  calm : Bool
  pn : List (Addr × Obj)
  xe : Value → Shared → Prop
/-- the callers' frames -/
def frs (l : List Env) : List Addr := l.filterMap (·.frame)
abbrev Cx.fs (X : Cx) : List Addr := frs X.outer

def Vis (sc : Scope) (x : Str) : Prop := sc.names.lookup x = some .local ∨ sc.names.lookup x = some .cell ∨ sc.names.lookup x = some .free
def Loc (sc : Scope) (x : Str) : Prop := sc.names.lookup x = some .local ∨ sc.names.lookup x = some .cell
def Look (env : Env) (h : Heap) (m : Str → Option Value) (x : Str) (u : Value) : Prop :=
  (env.kindOf x = some .local ∧ m x = some u) ∨ ((env.kindOf x = some .cell ∨ env.kindOf x = some .free) ∧ ∃ c, env.cells.lookup x = some c ∧ h.IsCell c (some u))

structure Cx.Ok (X : Cx) : Prop where
  mod : Mod X.K X.mg X.base
  kind : X.env.scope.kind = .function
  glob : X.env.globals = mainGlobals
  blt : X.env.builtins = builtinsNs
  above : X.s₀.heap.objs.size ≤ X.env.locals
  inj : ∀ x y c, X.env.cells.lookup x = some c → X.env.cells.lookup y = some c → x = y
  has : ∀ x, (X.env.kindOf x = some .cell ∨ X.env.kindOf x = some .free) → ∃ c, X.env.cells.lookup x = some c
  cab : ∀ x c, X.fn x = true → X.env.cells.lookup x = some c → X.s₀.heap.objs.size ≤ c
  hd : X.calm = true → X.A.handled = none
  frames : X.A.frames = some X.stack
  stk : X.stack = X.outer ∨ (X.stack = X.env :: X.outer ∧ X.env.frame = some X.env.locals)
  exf : ∀ b ∈ X.ex, b ≠ X.env.locals ∧ ∀ x c, X.env.cells.lookup x = some c → c ≠ b
  bs : ∀ b o, X.base.get? b = some o → X.s₀.heap.get? b = some o ∧ X.H₀ b = none
  bsz : X.base.objs.size ≤ X.s₀.heap.objs.size
  noex : ∀ b o, X.base.get? b = some o → b ∉ X.ex
  exfs : ∀ b ∈ X.ex, b ∉ X.fs
  funs : X.s₀.heap.FunFrames X.base X.outer
  frf : ∀ b ∈ X.fs, X.H₀ b = none

structure Inv (X : Cx) (pins : List (Addr × Obj)) (σ : List (Option V)) (H : Hp) (s : Shared) : Prop where
  ok : X.Ok
  os : s.os = X.s₀.os
  bare : AllBare s.gens
  base : Un X.fs X.ex X.H₀ H X.s₀.heap s.heap
  loc : ∃ m, s.heap.Ns X.env.locals m ∧ ∀ (i : Nat) (x : Str) (v : V), X.N[i]? = some x → σ[i]? = some (some v) → Vis X.env.scope x → ∃ u, RelV v u ∧ Look X.env s.heap m x u
  cell : ∀ x c, X.env.cells.lookup x = some c → ∃ v, s.heap.IsCell c v
  free : H X.env.locals = none
  freeC : ∀ x c, X.env.cells.lookup x = some c → H c = none
  pin : ∀ p ∈ X.pn ++ pins, s.heap.get? p.1 = some p.2 ∧ H p.1 = none ∧ p.1 ≠ X.env.locals ∧ p.1 ∉ X.fs ∧ ∀ v, p.2.data ≠ .cell v
  hok : HOk X.prog X.w H s.heap
  len : σ.length = X.N.length

section
variable {X : Cx} {pins : List (Addr × Obj)} {σ : List (Option V)} {H H' : Hp} {s : Shared} {h' : Heap}

theorem Cx.Ok.nofr (ok : X.Ok) {b : Addr} {o : Obj} (e : X.base.get? b = some o) : b ∉ X.fs := fun hb => by
  have := (ok.funs.mem hb).1
  rw [e] at this; cases this
theorem Inv.bs (I : Inv X pins σ H s) : ∀ b o, X.base.get? b = some o → s.heap.get? b = some o ∧ H b = none := fun b o e =>
  ⟨I.base.keep b o (I.ok.bs b o e).1 (I.ok.bs b o e).2 (I.ok.nofr e) (I.ok.noex b o e), I.base.free b o (I.ok.bs b o e).1 (I.ok.bs b o e).2 (I.ok.noex b o e)⟩
theorem Inv.bk (I : Inv X pins σ H s) : ∀ b o, X.base.get? b = some o → s.heap.get? b = some o := fun b o e => (I.bs b o e).1
theorem Inv.mod (I : Inv X pins σ H s) : Mod X.K X.mg X.base := I.ok.mod
theorem Inv.kIn (I : Inv X pins σ H s) : X.K.In s.heap := I.ok.mod.kin.keeps I.bk
theorem Inv.lt (I : Inv X pins σ H s) : X.env.locals < s.heap.objs.size := let ⟨_, hn, _⟩ := I.loc; hn.lt
theorem Inv.sz (I : Inv X pins σ H s) : X.s₀.heap.objs.size ≤ s.heap.objs.size := Nat.le_trans I.ok.above (Nat.le_of_lt I.lt)
theorem Inv.nofs (I : Inv X pins σ H s) {a : Addr} (h : s.heap.objs.size ≤ a) : a ∉ X.fs := fun hb => by
  obtain ⟨_, o, ho, _⟩ := I.ok.funs.mem hb
  exact absurd (Nat.lt_of_lt_of_le (Heap.lt_size ho) (Nat.le_trans I.sz h)) (Nat.lt_irrefl _)
theorem Inv.cne (I : Inv X pins σ H s) : ∀ x c, X.env.cells.lookup x = some c → c ≠ X.env.locals := fun x c e z => by
  obtain ⟨v, o, ho, hd⟩ := I.cell x c e
  obtain ⟨m, ⟨o', es, ep, ho', hd', _⟩, _⟩ := I.loc
  rw [z, ho'] at ho; cases ho; rw [hd'] at hd; cases hd
theorem Inv.funs (I : Inv X pins σ H s) : s.heap.FunFrames X.base X.outer := by
  have all : ∀ (l : List Env), (∀ b ∈ frs l, b ∈ X.fs) → X.s₀.heap.FunFrames X.base l → s.heap.FunFrames X.base l := by
    intro l
    induction l with
    | nil => intro _ _; trivial
    | cons env r ih =>
      intro hs hl
      obtain ⟨hk, ⟨L, o, hf, hn, ho, hd⟩, hr⟩ := hl
      have hL : L ∈ X.fs := hs L (by unfold frs; rw [List.filterMap_cons, hf]; exact List.mem_cons_self)
      obtain ⟨sl, e⟩ := I.base.slot L o ho (I.ok.frf L hL) hL fun z => I.ok.exfs L z hL
      exact ⟨hk, ⟨L, _, hf, hn, e, hd⟩, ih (fun b hb => hs b (by unfold frs; rw [List.filterMap_cons, hf]; exact List.mem_cons_of_mem _ hb)) hr⟩
  exact all X.outer (fun _ hb => hb) I.ok.funs

/-- the frames that run, for a call -/
theorem Inv.stack (I : Inv X pins σ H s) : s.heap.FunFrames X.base X.stack := by
  rcases I.ok.stk with e | ⟨e, hf⟩
  · rw [e]; exact I.funs
  · rw [e]
    obtain ⟨m, hn, _⟩ := I.loc
    refine .cons (by rw [I.ok.kind]; decide) hf hn ?_ I.funs
    exact Heap.get?_none_of_le (Nat.le_trans I.ok.bsz I.ok.above)
theorem Inv.stkSub (I : Inv X pins σ H s) : ∀ b ∈ frs X.stack, b ∈ X.env.locals :: X.fs := fun b hb => by
  rcases I.ok.stk with e | ⟨e, hf⟩
  · rw [e] at hb; exact List.mem_cons_of_mem _ hb
  · rw [e] at hb
    unfold frs at hb
    rw [List.filterMap_cons, hf] at hb
    exact hb
theorem Inv.stkFree (I : Inv X pins σ H s) : ∀ b ∈ frs X.stack, H b = none := fun b hb => by
  rcases List.mem_cons.mp (I.stkSub b hb) with e | hb
  · rw [e]; exact I.free
  · obtain ⟨_, o, ho, _⟩ := I.ok.funs.mem hb
    exact I.base.free b o ho (I.ok.frf b hb) fun z => I.ok.exfs b z hb

/-- THE STEP: the untracked objects but the frame and the records at ch are kept (the callers' frames up to slots), the frame's map is kept, the new abstract heap is held -/
theorem Inv.step {g' : Array GenState} {t' : Nat} {d' : Drawn} {ch : List Addr} (I : Inv X pins σ H s)
    (hch : ∀ b ∈ ch, (b ∈ X.ex ∨ X.s₀.heap.objs.size ≤ b) ∧ b ≠ X.env.locals ∧ (∀ x c, X.env.cells.lookup x = some c → c ≠ b) ∧ ∀ p ∈ X.pn ++ pins, p.1 ≠ b)
    (keep : ∀ b o, b ≠ X.env.locals → b ∉ X.fs → b ∉ ch → s.heap.get? b = some o → H b = none → h'.get? b = some o)
    (slot : ∀ b o, b ≠ X.env.locals → b ∈ X.fs → b ∉ ch → s.heap.get? b = some o → H b = none → ∃ sl, h'.get? b = some { o with slots := sl }) (free : ∀ b o, b ∉ ch → s.heap.get? b = some o → H b = none → H' b = none)
    (there : ∀ b o, b ∉ ch → s.heap.get? b = some o → ∃ o', h'.get? b = some o')
    (tups : ∀ b xs, H b = some (.tup xs) → H' b = some (.tup xs)) (frzs : ∀ b o u, H b = some (.frz o u) → H' b = some (.frz o u)) (tbls : ∀ b ps, H b = some (.tbl ps) → ∃ more, H' b = some (.tbl (ps ++ more)))
    (ns : ∀ m, s.heap.Ns X.env.locals m → h'.Ns X.env.locals m) (hok : HOk X.prog X.w H' h') (hg : AllBare g') :
    Inv X pins σ H' { s with heap := h', gens := g', drawn := d', toks := t' } := by
  have neL : ∀ b o, X.s₀.heap.get? b = some o → b ≠ X.env.locals := fun b o e => Nat.ne_of_lt (Nat.lt_of_lt_of_le (Heap.lt_size e) I.ok.above)
  have neC : ∀ b o, X.s₀.heap.get? b = some o → b ∉ X.ex → b ∉ ch := fun b o e hx hb => by
    rcases (hch b hb).1 with z | z
    · exact hx z
    · exact absurd (Nat.lt_of_lt_of_le (Heap.lt_size e) z) (Nat.lt_irrefl _)
  have cellK : ∀ x c, X.env.cells.lookup x = some c → ∀ v, s.heap.IsCell c v → h'.IsCell c v := fun x c e v ⟨o, ho, hd⟩ => by
    have nch : c ∉ ch := fun z => (hch c z).2.2.1 x c e rfl
    by_cases hc : c ∈ X.fs
    · obtain ⟨sl, q⟩ := slot c o (I.cne x c e) hc nch ho (I.freeC x c e)
      exact ⟨_, q, hd⟩
    · exact ⟨o, keep c o (I.cne x c e) hc nch ho (I.freeC x c e), hd⟩
  refine ⟨I.ok, I.os, hg, ⟨fun b o e n hb hx => ?_, fun b o e n hb hx => ?_, fun b o e n hx => ?_, fun b o e hx => ?_, fun b xs e => tups b xs (I.base.tups b xs e), fun b o xs e => frzs b o xs (I.base.frzs b o xs e), fun b ps e => ?_⟩, ?_, fun x c e => ?_, ?_, fun x c e => ?_, fun p hp => ?_, hok, I.len⟩
  · exact keep b o (neL b o e) hb (neC b o e hx) (I.base.keep b o e n hb hx) (I.base.free b o e n hx)
  · obtain ⟨sl, e1⟩ := I.base.slot b o e n hb hx
    obtain ⟨sl', e2⟩ := slot b _ (neL b o e) hb (neC b o e hx) e1 (I.base.free b o e n hx)
    exact ⟨sl', e2⟩
  · obtain ⟨o', e1⟩ := I.base.there b o e hx
    exact free b o' (neC b o e hx) e1 (I.base.free b o e n hx)
  · obtain ⟨o', e1⟩ := I.base.there b o e hx
    exact there b o' (neC b o e hx) e1
  · obtain ⟨m1, e1⟩ := I.base.tbls b ps e
    obtain ⟨m2, e2⟩ := tbls b _ e1
    exact ⟨m1 ++ m2, by rw [e2, Array.append_assoc]⟩
  · obtain ⟨m, hn, hl⟩ := I.loc
    refine ⟨m, ns m hn, fun i x v e1 e2 e3 => ?_⟩
    obtain ⟨u, r, l⟩ := hl i x v e1 e2 e3
    refine ⟨u, r, ?_⟩
    rcases l with l | ⟨k, c, e, z⟩
    · exact .inl l
    · exact .inr ⟨k, c, e, cellK x c e _ z⟩
  · obtain ⟨v, z⟩ := I.cell x c e
    exact ⟨v, cellK x c e v z⟩
  · obtain ⟨m, ⟨o, _, _, ho, _⟩, _⟩ := I.loc
    exact free _ o (fun z => (hch _ z).2.1 rfl) ho I.free
  · obtain ⟨v, o, ho, hd⟩ := I.cell x c e
    exact free c o (fun z => (hch c z).2.2.1 x c e rfl) ho (I.freeC x c e)
  · obtain ⟨e, n, ne, nf, d⟩ := I.pin p hp
    have nch : p.1 ∉ ch := fun z => (hch p.1 z).2.2.2 p hp rfl
    exact ⟨keep p.1 p.2 ne nf nch e n, free p.1 p.2 nch e n, ne, nf, d⟩
/-- .. where the frame's own object is kept too -/
theorem Inv.un {t' : Nat} (I : Inv X pins σ H s) (u : Un X.fs [] H H' s.heap h') (hok : HOk X.prog X.w H' h') : Inv X pins σ H' { s with heap := h', toks := t' } := by
  obtain ⟨m, ⟨o, es, ep, ho, r⟩, _⟩ := id I.loc
  obtain ⟨sl, hL⟩ := u.any ho I.free (by simp)
  exact I.step (g' := s.gens) (d' := s.drawn) (ch := []) (fun _ z => nomatch z) (fun b o _ hb _ e n => u.keep b o e n hb (by simp)) (fun b o _ hb _ e n => u.slot b o e n hb (by simp)) (fun b o _ e n => u.free b o e n (by simp)) (fun b o _ e => u.there b o e (by simp)) u.tups u.frzs u.tbls (fun m' hm => by
    obtain ⟨o', es', ep', ho', r'⟩ := hm
    rw [ho] at ho'; cases ho'
    exact ⟨_, es', ep', hL, r'⟩) hok I.bare
/-- behind a call (or a comprehension's block): the slots of this frame may have changed too, the records at ch may have turned -/
theorem Inv.call {g' : Array GenState} {t' : Nat} {d' : Drawn} {ch : List Addr} (I : Inv X pins σ H s) (u : Un (frs X.stack) ch H H' s.heap h') (hok : HOk X.prog X.w H' h') (hg : AllBare g')
    (hch : ∀ b ∈ ch, (b ∈ X.ex ∨ X.s₀.heap.objs.size ≤ b) ∧ b ≠ X.env.locals ∧ (∀ x c, X.env.cells.lookup x = some c → c ≠ b) ∧ ∀ p ∈ X.pn ++ pins, p.1 ≠ b) :
    Inv X pins σ H' { s with heap := h', gens := g', drawn := d', toks := t' } := by
  obtain ⟨m, ⟨o, es, ep, ho, r⟩, _⟩ := id I.loc
  obtain ⟨sl, hL⟩ := u.any ho I.free fun z => (hch _ z).2.1 rfl
  exact I.step (ch := ch) hch (fun b o hL hb hc e n => u.keep b o e n (fun z => (List.mem_cons.mp (I.stkSub b z)).elim hL hb) hc) (fun b o _ _ hc e n => u.any e n hc) (fun b o hc e n => u.free b o e n hc) (fun b o hc e => u.there b o e hc) u.tups u.frzs u.tbls (fun m' hm => by
    obtain ⟨o', es', ep', ho', r'⟩ := hm
    rw [ho] at ho'; cases ho'
    exact ⟨_, es', ep', hL, r'⟩) hok hg
/-- an untracked record of ours (an iterator) has turned -/
theorem Inv.turned {t' : Nat} {it : Addr} (I : Inv X pins σ H s) (k : ∀ b o, b ≠ it → s.heap.get? b = some o → h'.get? b = some o) (hn : H it = none) (hL : it ≠ X.env.locals)
    (h1 : it ∈ X.ex ∨ X.s₀.heap.objs.size ≤ it) (h2 : ∀ x c, X.env.cells.lookup x = some c → c ≠ it) (h3 : ∀ p ∈ X.pn ++ pins, p.1 ≠ it) : Inv X pins σ H { s with heap := h', toks := t' } := by
  have nit : ∀ b u, H b = some u → b ≠ it := fun b u e z => by rw [z, hn] at e; cases e
  refine I.step (g' := s.gens) (d' := s.drawn) (ch := [it]) (fun b hb => ?_) (fun b o _ _ hc e _ => k b o (fun z => hc (by simp [z])) e) (fun b o _ _ hc e _ => ⟨o.slots, k b o (fun z => hc (by simp [z])) e⟩) (fun _ _ _ _ n => n)
    (fun b o hc e => ⟨o, k b o (fun z => hc (by simp [z])) e⟩) (fun _ _ e => e) (fun _ _ _ e => e) (fun b ps e => ⟨#[], by rw [e]; simp⟩) (fun m hm => ?_) (fun b u e => ?_) I.bare
  · have e : b = it := by simpa using hb
    subst e
    exact ⟨h1, hL, h2, h3⟩
  · obtain ⟨o, es, ep, ho, r⟩ := hm
    exact ⟨o, es, ep, k _ o (Ne.symm hL) ho, r⟩
  · refine (I.hok b u e).stay (fun c v hc q => k c v ?_ q) (fun _ q => q) fun _ _ q => q
    rcases hc with z | z
    · rw [z]; exact nit b u e
    · exact nit c _ z
theorem Inv.tok (I : Inv X pins σ H s) (t : Nat) : Inv X pins σ H { s with toks := t } := I.un (h' := s.heap) (t' := t) Un.refl I.hok
/-- all objects kept -/
theorem Inv.kept {t' : Nat} (I : Inv X pins σ H s) (k : ∀ b u, s.heap.get? b = some u → h'.get? b = some u) : Inv X pins σ H { s with heap := h', toks := t' } := I.un (Un.kept k) (I.hok.kept k)
/-- a new object laid and tracked -/
theorem Inv.laid {a : Addr} {o : HO} {t' : Nat} (I : Inv X pins σ H s) (k : ∀ b u, s.heap.get? b = some u → h'.get? b = some u) (hp : s.heap.objs.size ≤ a) (new : ObjOk X.prog X.w (upd H a o) h' a o) :
    Inv X pins σ (upd H a o) { s with heap := h', toks := t' } := I.un (Un.laid k hp (I.hok.fresh hp)) (I.hok.laid k hp new)
/-- an object written -/
theorem Inv.write {x e : Addr} {o : HO} {t' : Nat} (I : Inv X pins σ H s) (mu : Mut (H x)) (he : e = x ∨ H e = some (.own x)) (k : ∀ b u, b ≠ e → s.heap.get? b = some u → h'.get? b = some u) (heo : ∃ u, h'.get? e = some u)
    (new : ObjOk X.prog X.w (upd H x o) h' x o) : Inv X pins σ (upd H x o) { s with heap := h', toks := t' } := I.un (Un.write mu he k heo) (I.hok.write mu he k heo new)
/-- forgetting slots, pins -/
theorem Inv.weak {σ' : List (Option V)} (I : Inv X pins σ H s) (hl : σ'.length = σ.length) (w : ∀ (i : Nat) v, σ'[i]? = some (some v) → σ[i]? = some (some v)) : Inv X pins σ' H s :=
  ⟨I.ok, I.os, I.bare, I.base, let ⟨m, hn, hl'⟩ := I.loc; ⟨m, hn, fun i x v e1 e2 e3 => hl' i x v e1 (w i v e2) e3⟩, I.cell, I.free, I.freeC, I.pin, I.hok, hl.trans I.len⟩
theorem Inv.pins_of {pins' : List (Addr × Obj)} (I : Inv X pins σ H s) (h : ∀ p ∈ pins', s.heap.get? p.1 = some p.2 ∧ H p.1 = none ∧ p.1 ≠ X.env.locals ∧ p.1 ∉ X.fs ∧ ∀ v, p.2.data ≠ .cell v) : Inv X pins' σ H s :=
  ⟨I.ok, I.os, I.bare, I.base, I.loc, I.cell, I.free, I.freeC, fun p hp => (List.mem_append.mp hp).elim (fun z => I.pin p (List.mem_append_left _ z)) (h p), I.hok, I.len⟩

theorem nodup_ix {N : List Str} (hN : N.Nodup) {i j : Nat} {x : Str} (a : N[i]? = some x) (b : N[j]? = some x) : i = j := by
  obtain ⟨h1, e1⟩ := List.getElem?_eq_some_iff.mp a
  obtain ⟨h2, e2⟩ := List.getElem?_eq_some_iff.mp b
  exact (List.getElem_inj hN).mp (e1.trans e2.symm)

/-- a name is stored; what changed -/
theorem store_ok2 {M : Model} {A : Around} {E : Value → Shared → Prop} {i : Nat} {x : Str} {v : V} {u : Value} {Q : Unit → Shared → Prop} (I : Inv X pins σ H s) (hN : X.N.Nodup) (hi : X.N[i]? = some x) (hx : Loc X.env.scope x) (r : RelV v u)
    (h : ∀ s', Inv X pins (σ.set i (some v)) H s' → (∃ a, Heap.SameBut a s.heap s'.heap ∧ (a = X.env.locals ∨ X.env.cells.lookup x = some a)) → Q () s') (hf : X.fn x = true ∨ X.env.scope.names.lookup x = some .local := by first | exact .inl rfl | exact .inr rfl | assumption) : wpAny M A (storeName X.env x u) Q E s := by
  obtain ⟨m, hn, hl⟩ := id I.loc
  have hcls : (X.env.scope.kind == .class || (X.env.scope.kind == .module && X.env.locals != X.env.globals)) = false := by rw [I.ok.kind]; rfl
  have hiσ : i < σ.length := by rw [I.len]; exact (List.getElem?_eq_some_iff.mp hi).1
  have cne := I.cne
  have tracked : ∀ {a : Addr} {h' : Heap}, (∃ o, s.heap.get? a = some o ∧ H a = none) → Heap.SameBut a s.heap h' → HOk X.prog X.w H h' := fun {a h'} ha hs b ob e => by
    obtain ⟨_, _, hfree⟩ := ha
    refine (I.hok b ob e).stay (fun c w' hc q => (hs.2 c ?_).trans q) (fun _ q => q) fun _ _ q => q
    rintro rfl
    rcases hc with rfl | hc
    · rw [hfree] at e; cases e
    · rw [hfree] at hc; cases hc
  rcases hx with hk | hk
  · refine wpAny_storeName_local hk hn (fun h' hn' hs => ?_) hcls
    obtain ⟨oL, _, _, hoL, _⟩ := id hn
    refine h _ ⟨I.ok, I.os, I.bare, ⟨fun b o e n hb hx => ?_, fun b o e n hb hx => ?_, I.base.free, fun b o e hx => ?_, I.base.tups, I.base.frzs, I.base.tbls⟩, ⟨_, hn', fun j y v' e1 e2 e3 => ?_⟩, fun y c e => ?_, I.free, I.freeC, fun p hp => ?_, tracked ⟨oL, hoL, I.free⟩ hs, by simpa using I.len⟩ ⟨_, hs, .inl rfl⟩
    · exact (hs.2 b (Nat.ne_of_lt (Nat.lt_of_lt_of_le (Heap.lt_size e) I.ok.above))).trans (I.base.keep b o e n hb hx)
    · obtain ⟨sl, e1⟩ := I.base.slot b o e n hb hx
      exact ⟨sl, (hs.2 b (Nat.ne_of_lt (Nat.lt_of_lt_of_le (Heap.lt_size e) I.ok.above))).trans e1⟩
    · obtain ⟨o', e1⟩ := I.base.there b o e hx
      exact ⟨o', (hs.2 b (Nat.ne_of_lt (Nat.lt_of_lt_of_le (Heap.lt_size e) I.ok.above))).trans e1⟩
    · by_cases hj : j = i
      · subst hj
        rw [hi] at e1; cases e1
        rw [List.getElem?_set_self hiσ] at e2
        cases e2
        exact ⟨u, r, .inl ⟨hk, by simp⟩⟩
      · rw [List.getElem?_set_ne (Ne.symm hj)] at e2
        obtain ⟨u', r', q⟩ := hl j y v' e1 e2 e3
        refine ⟨u', r', ?_⟩
        rcases q with ⟨k, e⟩ | ⟨k, c, e, z⟩
        · refine .inl ⟨k, ?_⟩
          have : y ≠ x := fun e => hj (nodup_ix hN e1 (e ▸ hi))
          simp [this, e]
        · exact .inr ⟨k, c, e, z.sameBut hs (cne y c e)⟩
    · obtain ⟨w', z⟩ := I.cell y c e
      exact ⟨w', z.sameBut hs (cne y c e)⟩
    · obtain ⟨e, n, ne, nf, d⟩ := I.pin p hp
      exact ⟨(hs.2 p.1 ne).trans e, n, ne, nf, d⟩
  · have hfn : X.fn x = true := by
      rcases hf with z | z
      · exact z
      · rw [z] at hk; cases hk
    obtain ⟨c, hc⟩ := I.ok.has x (.inl hk)
    obtain ⟨w', z⟩ := I.cell x c hc
    refine wpAny_storeName_cell I.ok.kind hk hc z (fun h' hc' hs => ?_)
    obtain ⟨oc, hoc, hocd⟩ := id z
    refine h { s with heap := h' } ⟨I.ok, I.os, I.bare, ⟨fun b o e n hb hx => ?_, fun b o e n hb hx => ?_, I.base.free, fun b o e hx => ?_, I.base.tups, I.base.frzs, I.base.tbls⟩, ⟨m, hn.sameBut hs (Ne.symm (cne x c hc)), fun j y v' e1 e2 e3 => ?_⟩, fun y c' e => ?_, I.free, I.freeC, fun p hp => ?_, tracked ⟨oc, hoc, I.freeC x c hc⟩ hs, by simpa using I.len⟩ ⟨c, hs, .inr hc⟩
    · exact (hs.2 b (Nat.ne_of_lt (Nat.lt_of_lt_of_le (Heap.lt_size e) (I.ok.cab x c hfn hc)))).trans (I.base.keep b o e n hb hx)
    · obtain ⟨sl, e1⟩ := I.base.slot b o e n hb hx
      exact ⟨sl, (hs.2 b (Nat.ne_of_lt (Nat.lt_of_lt_of_le (Heap.lt_size e) (I.ok.cab x c hfn hc)))).trans e1⟩
    · obtain ⟨o', e1⟩ := I.base.there b o e hx
      exact ⟨o', (hs.2 b (Nat.ne_of_lt (Nat.lt_of_lt_of_le (Heap.lt_size e) (I.ok.cab x c hfn hc)))).trans e1⟩
    · by_cases hj : j = i
      · subst hj
        rw [hi] at e1; cases e1
        rw [List.getElem?_set_self hiσ] at e2
        cases e2
        exact ⟨u, r, .inr ⟨.inl hk, c, hc, hc'⟩⟩
      · rw [List.getElem?_set_ne (Ne.symm hj)] at e2
        obtain ⟨u', r', q⟩ := hl j y v' e1 e2 e3
        refine ⟨u', r', ?_⟩
        rcases q with q | ⟨k, c', e, z'⟩
        · exact .inl q
        · refine .inr ⟨k, c', e, z'.sameBut hs ?_⟩
          rintro rfl
          exact hj (nodup_ix hN e1 (I.ok.inj _ _ _ e hc ▸ hi))
    · by_cases hcc : c' = c
      · subst hcc; exact ⟨_, hc'⟩
      · obtain ⟨w2, z2⟩ := I.cell y c' e
        exact ⟨w2, z2.sameBut hs hcc⟩
    · obtain ⟨e, n, ne, nf, d⟩ := I.pin p hp
      refine ⟨(hs.2 p.1 ?_).trans e, n, ne, nf, d⟩
      intro q
      rw [q, hoc] at e
      have q' : oc = p.2 := Option.some.inj e
      exact d w' (by rw [← q']; exact hocd)
theorem store_ok {M : Model} {A : Around} {E : Value → Shared → Prop} {i : Nat} {x : Str} {v : V} {u : Value} {Q : Unit → Shared → Prop} (I : Inv X pins σ H s) (hN : X.N.Nodup) (hi : X.N[i]? = some x) (hx : Loc X.env.scope x) (r : RelV v u)
    (h : ∀ s', Inv X pins (σ.set i (some v)) H s' → Q () s') (hf : X.fn x = true ∨ X.env.scope.names.lookup x = some .local := by first | exact .inl rfl | exact .inr rfl | assumption) : wpAny M A (storeName X.env x u) Q E s :=
  store_ok2 I hN hi hx r (fun s' I' _ => h s' I') hf
/-- behind a call or a block, the state as it is -/
theorem Inv.call' {s' : Shared} {ch : List Addr} (I : Inv X pins σ H s) (ho : s'.os = s.os) (u : Un (frs X.stack) ch H H' s.heap s'.heap) (hok : HOk X.prog X.w H' s'.heap) (hg : AllBare s'.gens)
    (hch : ∀ b ∈ ch, (b ∈ X.ex ∨ X.s₀.heap.objs.size ≤ b) ∧ b ≠ X.env.locals ∧ (∀ x c, X.env.cells.lookup x = some c → c ≠ b) ∧ ∀ p ∈ X.pn ++ pins, p.1 ≠ b) : Inv X pins σ H' s' := by
  obtain ⟨h', g', d', t', o'⟩ := s'
  have e : o' = s.os := ho
  subst e
  exact I.call (g' := g') (t' := t') (d' := d') u hok hg hch
end

/-! ### the judgements -/
/-- an exception: its class, its own dict's address (where it has one), the abstract heap behind it -/
abbrev XK := Value → Option Addr → Hp → Prop
abbrev St := List (Option V)
abbrev VK := V → Hp → Prop
/-- an expression's reading; a test's; an argument list's -/
abbrev TE := St → Hp → VK → Prop
abbrev TT := St → Hp → (Bool → Hp → Prop) → Prop
abbrev TA := St → Hp → (List V → Hp → Prop) → Prop
/-- what is wanted behind a statement -/
structure Ends where
  nx : St → Hp → Prop
  rt : VK
  bk : St → Hp → Prop := fun _ _ => False
  ct : St → Hp → Prop := fun _ _ => False
abbrev TS := Ends → St → Hp → Prop

def EP (X : Cx) (pins : List (Addr × Obj)) (σ : St) (Q : VK) (u : Value) (s' : Shared) : Prop := ∃ v H', Inv X pins σ H' s' ∧ RelV v u ∧ Q v H'
def TP (X : Cx) (pins : List (Addr × Obj)) (σ : St) (Q : Bool → Hp → Prop) (b : Bool) (s' : Shared) : Prop := ∃ H', Inv X pins σ H' s' ∧ Q b H'
def AP (X : Cx) (pins : List (Addr × Obj)) (σ : St) (Q : List V → Hp → Prop) (us : List Value) (s' : Shared) : Prop := ∃ vs H', Inv X pins σ H' s' ∧ Vals vs us ∧ Q vs H'
def SP (X : Cx) (pins : List (Addr × Obj)) (D : Ends) (f : Flow) (s' : Shared) : Prop :=
  match f with
  | .next => ∃ σ' H', Inv X pins σ' H' s' ∧ D.nx σ' H'
  | .brk => ∃ σ' H', Inv X pins σ' H' s' ∧ D.bk σ' H'
  | .cont => ∃ σ' H', Inv X pins σ' H' s' ∧ D.ct σ' H'
  | .ret u => ∃ v σ' H', Inv X pins σ' H' s' ∧ RelV v u ∧ D.rt v H'

def PE (X : Cx) (e : Expr) (t : TE) : Prop :=
  ∀ (pins : List (Addr × Obj)) (s : Shared) (σ : St) (H : Hp) (Q : VK), Inv X pins σ H s → t σ H Q → wpAny (model X.prog X.w) X.A (eval e X.env) (EP X pins σ Q) X.xe s
def PT (X : Cx) (e : Expr) (t : TT) : Prop :=
  ∀ (pins : List (Addr × Obj)) (s : Shared) (σ : St) (H : Hp) (Q : Bool → Hp → Prop), Inv X pins σ H s → t σ H Q → wpAny (model X.prog X.w) X.A (isTrue e X.env (eval e X.env)) (TP X pins σ Q) X.xe s
/-- a test whatever its 'whole' is (and, or) -/
def PW (X : Cx) (e : Expr) (t : TT) : Prop :=
  ∀ (whole : Sem Value) (pins : List (Addr × Obj)) (s : Shared) (σ : St) (H : Hp) (Q : Bool → Hp → Prop), Inv X pins σ H s → t σ H Q → wpAny (model X.prog X.w) X.A (isTrue e X.env whole) (TP X pins σ Q) X.xe s
theorem PW.pt {X : Cx} {e : Expr} {t : TT} (h : PW X e t) : PT X e t := h _
/-- an argument list (no star), from the left -/
def PA (X : Cx) (es : List Expr) (t : TA) : Prop :=
  ∀ (pos : Pos) (pins : List (Addr × Obj)) (s : Shared) (σ : St) (H : Hp) (Q : List V → Hp → Prop), Inv X pins σ H s → t σ H Q → wpAny (model X.prog X.w) X.A (spliced (backTo pos (starEach es X.env))) (AP X pins σ Q) X.xe s
def PS (X : Cx) (st : Stmt) (t : TS) : Prop :=
  ∀ (pins : List (Addr × Obj)) (s : Shared) (σ : St) (H : Hp) (D : Ends), Inv X pins σ H s → t D σ H → wpAny (model X.prog X.w) X.A (exec st X.env) (SP X pins D) X.xe s
def PSs (X : Cx) (st : List Stmt) (t : TS) : Prop :=
  ∀ (pins : List (Addr × Obj)) (s : Shared) (σ : St) (H : Hp) (D : Ends), Inv X pins σ H s → t D σ H → wpAny (model X.prog X.w) X.A (execs st X.env) (SP X pins D) X.xe s
/-- weaken the end -/
theorem thn {α : Type} {t : Sem α} {Q Q' : α → Shared → Prop} {M : Model} {A : Around} {E : Value → Shared → Prop} {s : Shared} (h : wpAny M A t Q E s) (hQ : ∀ a s, Q a s → Q' a s) : wpAny M A t Q' E s := wpAny_mono h hQ fun _ _ x => x
end L2

namespace L2
open PySem PySem.Spec PyProof.Rows
section
variable {X : Cx}


/-! ### names and constants -/
def tVar (i : Nat) : TE := fun σ H Q => ∃ v, σ[i]? = some (some v) ∧ Q v H
def tC (v : V) : TE := fun _ H Q => Q v H
theorem pe_var {i : Nat} {x : Str} {pos : Pos} (hN : X.N[i]? = some x) (hv : Vis X.env.scope x) (hd : (x == ("__debug__" : Str)) = false := by decide) (hcd : (x == ("__classdict__" : Str)) = false := by decide) : PE X (.Name x pos) (tVar i) := by
  intro pins s σ H Q I h
  obtain ⟨v, e, h⟩ := h
  obtain ⟨m, hn, hl⟩ := I.loc
  obtain ⟨u, r, l⟩ := hl i x v hN e hv
  have fin : EP X pins σ Q u s := ⟨v, H, I, r, h⟩
  rcases l with ⟨hk, hm⟩ | ⟨hk, c, hc, hcell⟩
  · exact wpAny_Name (wpAny_loadName_local I.ok.kind hk hn hm fin) hd
  · rcases hk with hk | hk
    · exact wpAny_Name (wpAny_loadName_cell I.ok.kind hk hc hcell fin) hd
    · exact wpAny_Name (wpAny_loadName_free I.ok.kind hk hc hcell fin hcd) hd
theorem pe_int {i j pos} : PE X (.Constant (.int i) j pos) (tC (.int i)) := fun _ _ _ H _ I h => wpAny_Constant_int ⟨.int i, H, I.tok _, ⟨_, rfl⟩, h⟩
theorem pe_bl {b j pos} : PE X (.Constant (.bool b) j pos) (tC (.bl b)) := fun _ _ _ H _ I h => Constant_bool ⟨.bl b, H, I, rfl, h⟩
theorem pe_non {j pos} : PE X (.Constant .none j pos) (tC .non) := fun _ _ _ H _ I h => Constant_none ⟨.non, H, I, rfl, h⟩
theorem pe_str {x j pos} : PE X (.Constant (.str x) j pos) (tC (.str x)) := fun _ _ _ H _ I h => Calls.Constant_str ⟨.str x, H, I.tok _, ⟨_, rfl⟩, h⟩

/-- a global name of the def -/
def Gl (X : Cx) (x : Str) : Prop := X.env.kindOf x = some .globalImplicit
theorem ld_glob {E : Value → Shared → Prop} {pins : List (Addr × Obj)} {s : Shared} {σ : St} {H : Hp} {x : Str} {u : Value} {pos : Pos} {Q : Value → Shared → Prop} (I : Inv X pins σ H s) (hg : Gl X x) (hm : X.mg x = some u) (h : Q u s)
    (hd : (x == ("__debug__" : Str)) = false := by decide) : wpAny (model X.prog X.w) X.A (eval (.Name x pos) X.env) Q E s :=
  Calls.Name_function_global I.ok.kind hg (Calls.loadGlobal_global (by rw [I.ok.glob]; exact I.mod.glob.keeps I.bk) hm h) hd
theorem ld_blt {E : Value → Shared → Prop} {pins : List (Addr × Obj)} {s : Shared} {σ : St} {H : Hp} {x : Str} {u : Value} {pos : Pos} {Q : Value → Shared → Prop} (I : Inv X pins σ H s) (hg : Gl X x) (hm : X.mg x = none) (hv : bootBuiltins x = some u) (h : Q u s)
    (hn : x ≠ "__name__" := by decide) (hd : (x == ("__debug__" : Str)) = false := by decide) : wpAny (model X.prog X.w) X.A (eval (.Name x pos) X.env) Q E s := by
  obtain ⟨mb, h1, h2⟩ := I.mod.blt
  exact Calls.Name_function_global I.ok.kind hg (Calls.loadGlobal_builtin (by rw [I.ok.glob]; exact I.mod.glob.keeps I.bk) hm (by rw [I.ok.blt]; exact h1.keeps I.bk) ((h2 x hn).trans hv) h) hd
/-- a module's constant, a class, a function, as a value -/
theorem pe_glob {x : Str} {v : V} {u : Value} {pos : Pos} (hg : Gl X x) (hm : X.mg x = some u) (r : RelV v u) (hd : (x == ("__debug__" : Str)) = false := by decide) : PE X (.Name x pos) (tC v) :=
  fun _ _ _ H _ I h => ld_glob I hg hm ⟨v, H, I, r, h⟩ hd
theorem pe_bltn {x : Str} {v : V} {u : Value} {pos : Pos} (hg : Gl X x) (hm : X.mg x = none) (hv : bootBuiltins x = some u) (r : RelV v u) (hn : x ≠ "__name__" := by decide) (hd : (x == ("__debug__" : Str)) = false := by decide) : PE X (.Name x pos) (tC v) :=
  fun _ _ _ H _ I h => ld_blt I hg hm hv ⟨v, H, I, r, h⟩ hn hd

/-! ### arithmetic -/
/-- two ints -/
def t2I (ta tb : TE) (k : Int → Int → Hp → Prop) : St → Hp → Prop := fun σ H => ta σ H fun x H1 => tb σ H1 fun y H2 => ∃ i j, x = .int i ∧ y = .int j ∧ k i j H2
def tAdd (ta tb : TE) : TE := fun σ H Q => t2I ta tb (fun i j H2 => Q (.int (i + j)) H2) σ H
def tSub (ta tb : TE) : TE := fun σ H Q => t2I ta tb (fun i j H2 => Q (.int (i - j)) H2) σ H
/-- the left factor below 2^64 -/
def tMul (ta tb : TE) : TE := fun σ H Q => t2I ta tb (fun i j H2 => (-(2 ^ 64) < i ∧ i < 2 ^ 64) ∧ Q (.int (i * j)) H2) σ H
variable {a b : Expr} {ta tb : TE} {pos : Pos}

/-! ### comparisons -/
def PC (X : Cx) (op : CmpOp) (a b : Expr) (t : TE) : Prop :=
  ∀ (pins : List (Addr × Obj)) (s : Shared) (σ : St) (H : Hp) (Q : VK), Inv X pins σ H s → t σ H Q →
    wpAny (model X.prog X.w) X.A (eval a X.env) (fun v s₁ => wpAny (model X.prog X.w) X.A (eval b X.env) (fun u s₂ => wpAny (model X.prog X.w) X.A (compareOp op v u) (EP X pins σ Q) X.xe s₂) X.xe s₁) X.xe s
def tCmp (p : Int → Int → Bool) (ta tb : TE) : TE := fun σ H Q => t2I ta tb (fun i j H2 => Q (.bl (p i j)) H2) σ H
abbrev tLt : TE → TE → TE := tCmp fun i j => decide (i < j)
abbrev tLe : TE → TE → TE := tCmp fun i j => decide (i ≤ j)
abbrev tGt : TE → TE → TE := tCmp fun i j => decide (j < i)
abbrev tGe : TE → TE → TE := tCmp fun i j => decide (j ≤ i)
abbrev tEqI : TE → TE → TE := tCmp fun i j => decide (i = j)
abbrev tNeI : TE → TE → TE := tCmp fun i j => !decide (i = j)
/-- is None -/
def tIsN (ta : TE) : TE := fun σ H Q => ta σ H fun x H1 => Q (.bl (decide (x = .non))) H1
def tNotN (ta : TE) : TE := fun σ H Q => ta σ H fun x H1 => Q (.bl (!decide (x = .non))) H1
/-- a comparison as a value, as a test -/
def tB (t : TE) : TT := fun σ H Q => t σ H fun x H1 => ∃ c, x = .bl c ∧ Q c H1
/-- an expression whose value is a bool, as a test -/
theorem pt_val {e : Expr} {t : TE} (h : PE X e t) (he : ∀ whole, isTrue e X.env whole = (do let v ← whole; standAt e.pos; holding [v] (truthy v)) := by intro _; rfl) : PT X e (tB t) := by
  intro pins s σ H Q I hw
  refine isTrue_plain (thn (h pins s σ H _ I hw) fun v s1 ⟨x, H1, I1, r1, q1⟩ => ?_) (he _)
  obtain ⟨d, rfl, q⟩ := q1
  cases r1
  exact wpAny_truthy_bool ⟨H1, I1, q⟩

/-! ### and, or, not -/
variable {tA tB' : TT} {rest : List Expr}
def tAnd (t u : TT) : TT := fun σ H Q => t σ H fun c H1 => if c = true then u σ H1 Q else Q false H1
def tOr (t u : TT) : TT := fun σ H Q => t σ H fun c H1 => if c = true then Q true H1 else u σ H1 Q
def tNot (t : TT) : TT := fun σ H Q => t σ H fun c H1 => Q (!c) H1
theorem pw_and1 (ha : PT X a tA) : PW X (.BoolOp .And [a] pos) tA := by
  intro wh pins s σ H Q I h
  refine isTrue_and (thn (ha pins s σ H Q I h) fun c s1 e => ?_)
  cases c with
  | true => exact isTrue_and_nil e
  | false => exact e
theorem pw_or1 (ha : PT X a tA) : PW X (.BoolOp .Or [a] pos) tA := by
  intro wh pins s σ H Q I h
  refine isTrue_or (thn (ha pins s σ H Q I h) fun c s1 e => ?_)
  cases c with
  | false => exact isTrue_or_nil e
  | true => exact e
theorem pw_and (ha : PT X a tA) (hb : PW X (.BoolOp .And (b :: rest) pos) tB') : PW X (.BoolOp .And (a :: b :: rest) pos) (tAnd tA tB') := by
  intro wh pins s σ H Q I h
  refine isTrue_and (thn (ha pins s σ H _ I h) fun c s1 ⟨H1, I1, q1⟩ => ?_)
  cases c with
  | true => exact hb wh pins s1 σ H1 Q I1 q1
  | false => exact ⟨H1, I1, q1⟩
theorem pw_or (ha : PT X a tA) (hb : PW X (.BoolOp .Or (b :: rest) pos) tB') : PW X (.BoolOp .Or (a :: b :: rest) pos) (tOr tA tB') := by
  intro wh pins s σ H Q I h
  refine isTrue_or (thn (ha pins s σ H _ I h) fun c s1 ⟨H1, I1, q1⟩ => ?_)
  cases c with
  | true => exact ⟨H1, I1, q1⟩
  | false => exact hb wh pins s1 σ H1 Q I1 q1
theorem pt_not (ha : PT X a tA) : PT X (.UnaryOp .Not a pos) (tNot tA) := by
  intro pins s σ H Q I h
  exact isTrue_not (ha pins s σ H (fun c H1 => Q (!c) H1) I h)
/-- .. as values (bools) -/
def tAndV (ta tb : TE) : TE := fun σ H Q => ta σ H fun x H1 => ∃ c, x = .bl c ∧ if c = true then tb σ H1 Q else Q (.bl false) H1
def tOrV (ta tb : TE) : TE := fun σ H Q => ta σ H fun x H1 => ∃ c, x = .bl c ∧ if c = true then Q (.bl true) H1 else tb σ H1 Q
def tNotV (ta : TE) : TE := fun σ H Q => ta σ H fun x H1 => ∃ c, x = .bl c ∧ Q (.bl (!c)) H1
theorem pe_one {op} {t : TE} (h : PE X a t) : PE X (.BoolOp op [a] pos) t := fun pins s σ H Q I hw => BoolOp_one (h pins s σ H Q I hw)
theorem pe_and (ha : PE X a ta) (hb : PE X (.BoolOp .And (b :: rest) pos) tb) : PE X (.BoolOp .And (a :: b :: rest) pos) (tAndV ta tb) := by
  intro pins s σ H Q I h
  refine BoolOp_and (thn (ha pins s σ H _ I h) fun v s1 ⟨x, H1, I1, r1, q1⟩ => ?_)
  obtain ⟨c, rfl, q1⟩ := q1
  cases r1
  refine wpAny_truthy_bool ?_
  cases c with
  | true => exact hb pins s1 σ H1 Q I1 q1
  | false => exact ⟨.bl false, H1, I1, rfl, q1⟩
theorem pe_or (ha : PE X a ta) (hb : PE X (.BoolOp .Or (b :: rest) pos) tb) : PE X (.BoolOp .Or (a :: b :: rest) pos) (tOrV ta tb) := by
  intro pins s σ H Q I h
  refine BoolOp_or (thn (ha pins s σ H _ I h) fun v s1 ⟨x, H1, I1, r1, q1⟩ => ?_)
  obtain ⟨c, rfl, q1⟩ := q1
  cases r1
  refine wpAny_truthy_bool ?_
  cases c with
  | false => exact hb pins s1 σ H1 Q I1 q1
  | true => exact ⟨.bl true, H1, I1, rfl, q1⟩
/-- a if t else b -/
def tIf (t : TT) (ta tb : TE) : TE := fun σ H Q => t σ H fun c H1 => if c = true then ta σ H1 Q else tb σ H1 Q
end
end L2

namespace L2
open PySem PySem.Spec PyProof.Rows

/-! ### a list, a tuple that is read: tracked, frozen, or an object of the module -/
def SqL (K : PySem.W.Frag) (H : Hp) (a : Addr) (xs : List V) : Prop :=
  Rd H a (.lst xs) ∨
    ∃ (o : Obj) (its : Array Value) (n : Nat), K.lookup a = some o ∧ o.cls = .type "list" ∧ o.dict = none ∧ o.data = .seq its n ∧ its.size ≤ sizeLine ∧ Vals xs its.toList
def SqT (K : PySem.W.Frag) (H : Hp) (a : Addr) (xs : List V) : Prop :=
  Rd H a (.tup xs) ∨
    ∃ (o : Obj) (its : Array Value) (n : Nat), K.lookup a = some o ∧ o.cls = .type "tuple" ∧ o.data = .seq its n ∧ its.size ≤ sizeLine ∧ Vals xs its.toList
def absV : Value → Option V
  | .none => some .non
  | .bool b => some (.bl b)
  | .int i _ => some (.int i)
  | .str x _ => some (.str x)
  | .bytes b _ => some (.byt b)
  | .float b _ => some (.flt b)
  | .ref a => some (.ref a)
  | .type n => some (.ty n)
  | _ => none
theorem RelV.abs {x : V} {u : Value} (r : RelV x u) : absV u = some x := by
  cases x with
  | non => cases r; rfl
  | bl _ => cases r; rfl
  | int _ => obtain ⟨t, rfl⟩ := r; rfl
  | str _ => obtain ⟨t, rfl⟩ := r; rfl
  | byt _ => obtain ⟨t, rfl⟩ := r; rfl
  | flt _ => obtain ⟨t, rfl⟩ := r; rfl
  | ref _ => cases r; rfl
  | ty _ => cases r; rfl
theorem RelV.inj {x y : V} {u : Value} (r : RelV x u) (q : RelV y u) : x = y := Option.some.inj (r.abs.symm.trans q.abs)
theorem Vals.inj : ∀ {xs ys : List V} {us : List Value}, Vals xs us → Vals ys us → xs = ys
  | _, _, _, .nil, .nil => rfl
  | _, _, _, .cons r t, .cons r' t' => by rw [r.inj r', Vals.inj t t']
section
variable {X : Cx} {pins : List (Addr × Obj)} {σ : St} {H : Hp} {s : Shared} {a : Addr} {xs ys : List V}
theorem SqL.of {K : PySem.W.Frag} (h : H a = some (.lst xs)) : SqL K H a xs := .inl (.inl h)
theorem SqT.of {K : PySem.W.Frag} (h : H a = some (.tup xs)) : SqT K H a xs := .inl (.inl h)
theorem Inv.list (I : Inv X pins σ H s) (h : SqL X.K H a xs) : ∃ its : List Value, Vals xs its ∧ PlainL s.heap a its.toArray ∧ xs.length ≤ sizeLine := by
  rcases h with h | ⟨o, its, n, hk, hc, hd, hs, hz, r⟩
  · obtain ⟨z, its, n, r, e⟩ := h.ok I.hok
    exact ⟨its, r, ⟨_, n, e, rfl, rfl, rfl⟩, z⟩
  · refine ⟨its.toList, r, ⟨o, n, I.kIn a o hk, hc, hd, by simpa using hs⟩, ?_⟩
    have e := r.length
    simp only [Array.length_toList] at e
    omega
theorem Inv.tuple (I : Inv X pins σ H s) (h : SqT X.K H a xs) : ∃ its : List Value, Vals xs its ∧ IsTup s.heap a its.toArray ∧ xs.length ≤ sizeLine := by
  rcases h with h | ⟨o, its, n, hk, hc, hs, hz, r⟩
  · obtain ⟨z, its, r, p⟩ := h.ok I.hok
    exact ⟨its, r, p, z⟩
  · refine ⟨its.toList, r, ⟨o, I.kIn a o hk, hc, n, by simpa using hs⟩, ?_⟩
    have e := r.length
    simp only [Array.length_toList] at e
    omega
theorem Inv.list_inj (I : Inv X pins σ H s) (h : SqL X.K H a xs) (h' : SqL X.K H a ys) : xs = ys := by
  obtain ⟨its, r, ⟨o, n, e, _, _, d⟩, _⟩ := I.list h
  obtain ⟨its', r', ⟨o', n', e', _, _, d'⟩, _⟩ := I.list h'
  rw [e] at e'; cases e'
  rw [d] at d'
  injection d' with d1 _
  have : its = its' := by simpa using congrArg Array.toList d1
  subst this
  exact r.inj r'
theorem Inv.tuple_inj (I : Inv X pins σ H s) (h : SqT X.K H a xs) (h' : SqT X.K H a ys) : xs = ys := by
  obtain ⟨its, r, ⟨o, e, _, n, d⟩, _⟩ := I.tuple h
  obtain ⟨its', r', ⟨o', e', _, n', d'⟩, _⟩ := I.tuple h'
  rw [e] at e'; cases e'
  rw [d] at d'
  injection d' with d1 _
  have : its = its' := by simpa using congrArg Array.toList d1
  subst this
  exact r.inj r'
end

/-! ### another wish about exceptions -/
abbrev Cx.wish (X : Cx) (E : Value → Shared → Prop) : Cx := { X with xe := E }
/-- no exception leaves -/
abbrev Cx.nox (X : Cx) : Cx := X.wish fun _ _ => False
theorem Cx.Ok.wish {X : Cx} (ok : X.Ok) (E : Value → Shared → Prop) : (X.wish E).Ok :=
  ⟨ok.mod, ok.kind, ok.glob, ok.blt, ok.above, ok.inj, ok.has, ok.cab, ok.hd, ok.frames, ok.stk, ok.exf, ok.bs, ok.bsz, ok.noex, ok.exfs, ok.funs, ok.frf⟩
theorem Cx.Ok.unwish {X : Cx} {E : Value → Shared → Prop} (ok : (X.wish E).Ok) : X.Ok :=
  ⟨ok.mod, ok.kind, ok.glob, ok.blt, ok.above, ok.inj, ok.has, ok.cab, ok.hd, ok.frames, ok.stk, ok.exf, ok.bs, ok.bsz, ok.noex, ok.exfs, ok.funs, ok.frf⟩
section
variable {X : Cx} {pins : List (Addr × Obj)} {σ : St} {H : Hp} {s : Shared} {E : Value → Shared → Prop}
theorem Inv.wish (I : Inv X pins σ H s) (E : Value → Shared → Prop) : Inv (X.wish E) pins σ H s := ⟨I.ok.wish E, I.os, I.bare, I.base, I.loc, I.cell, I.free, I.freeC, I.pin, I.hok, I.len⟩
theorem Inv.unwish (I : Inv (X.wish E) pins σ H s) : Inv X pins σ H s := ⟨I.ok.unwish, I.os, I.bare, I.base, I.loc, I.cell, I.free, I.freeC, I.pin, I.hok, I.len⟩
theorem SP.unwish {D : Ends} {f : Flow} {s' : Shared} (h : SP (X.wish E) pins D f s') : SP X pins D f s' := by
  cases f with
  | next => obtain ⟨σ', H', I, q⟩ := h; exact ⟨σ', H', I.unwish, q⟩
  | brk => obtain ⟨σ', H', I, q⟩ := h; exact ⟨σ', H', I.unwish, q⟩
  | cont => obtain ⟨σ', H', I, q⟩ := h; exact ⟨σ', H', I.unwish, q⟩
  | ret u => obtain ⟨v, σ', H', I, r, q⟩ := h; exact ⟨v, σ', H', I.unwish, r, q⟩
theorem PSs.nox {st : List Stmt} {t : TS} (h : PSs X.nox st t) : PSs X st t := fun pins s σ H D I hw =>
  wpAny_mono (h pins s σ H D (I.wish _) hw) (fun _ _ q => q.unwish) fun _ _ z => False.elim z
end

/-! ### blocks and small statements -/
section
variable {X : Cx} {st : Stmt} {rest : List Stmt} {t u : TS} {e : Expr} {te : TE} {pos : Pos}
def tNext : TS := fun D σ H => D.nx σ H
def tSeq (t u : TS) : TS := fun D σ H => t { D with nx := u D } σ H
theorem pss_nil : PSs X [] tNext := fun _ _ σ H _ I h => wpAny_execs_nil ⟨σ, H, I, h⟩
theorem pss_cons (h1 : PS X st t) (h2 : PSs X rest u) : PSs X (st :: rest) (tSeq t u) := by
  intro pins s σ H D I h
  refine wpAny_execs_cons (thn (h1 pins s σ H { D with nx := u D } I h) fun f s1 q => ?_)
  cases f with
  | next =>
    obtain ⟨σ', H', I', q⟩ := q
    exact h2 pins s1 σ' H' D I' q
  | ret v => exact q
  | brk => exact q
  | cont => exact q
theorem pss_one (h1 : PS X st t) : PSs X [st] t := by
  intro pins s σ H D I h
  refine wpAny_execs_cons (thn (h1 pins s σ H D I h) fun f s1 q => ?_)
  cases f with
  | next => exact wpAny_execs_nil q
  | ret v => exact q
  | brk => exact q
  | cont => exact q
def tBreak : TS := fun D σ H => D.bk σ H
def tCont : TS := fun D σ H => D.ct σ H
/-- in a def's body nothing is shown -/
theorem Inv.quiet {pins : List (Addr × Obj)} {σ : St} {H : Hp} {s : Shared} (I : Inv X pins σ H s) : interactive X.env = false := by simp [interactive, I.ok.kind]
/-- an expression whose value is dropped -/
def tDrop (te : TE) : TS := fun D σ H => te σ H fun _ H1 => D.nx σ H1
theorem ps_expr (he : PE X e te) (hs : swapsWith e none pos.line X.env = pure false := by rfl) : PS X (.Expr e pos) (tDrop te) := by
  intro pins s σ H D I h
  exact wpAny_Expr_any (thn (he pins s σ H _ I h) fun v s1 ⟨x, H1, I1, r1, q1⟩ => ⟨σ, H1, I1, q1⟩) I.quiet hs
def tRet (te : TE) : TS := fun D σ H => te σ H D.rt
theorem ps_ret (he : PE X e te) : PS X (.Return (some e) pos) (tRet te) := by
  intro pins s σ H D I h
  exact wpAny_Return_some (thn (he pins s σ H _ I h) fun v s1 ⟨x, H1, I1, r1, q1⟩ => ⟨x, σ, H1, I1, r1, q1⟩)
def tRetN : TS := fun D _ H => D.rt .non H
def tIfS (c : TT) (t u : TS) : TS := fun D σ H => c σ H fun b H1 => if b = true then t D σ H1 else u D σ H1
theorem ps_if {c : Expr} {a b : List Stmt} {tc : TT} (hc : PT X c tc) (ha : PSs X a t) (hb : PSs X b u) : PS X (.If c a b pos) (tIfS tc t u) := by
  intro pins s σ H D I h
  refine wpAny_If (thn (hc pins s σ H _ I h) fun d s1 ⟨H1, I1, q1⟩ => ?_)
  cases d with
  | true => exact ha pins s1 σ H1 D I1 q1
  | false => exact hb pins s1 σ H1 D I1 q1
/-- code that the proof never comes to -/
def tNever : TS := fun _ _ _ => False
end

/-! ### targets -/
abbrev TG := V → St → Hp → (St → Hp → Prop) → Prop
abbrev TGs := List V → St → Hp → (St → Hp → Prop) → Prop
def PG (X : Cx) (target : Expr) (t : TG) : Prop :=
  ∀ (pins : List (Addr × Obj)) (s : Shared) (σ : St) (H : Hp) (v : V) (u : Value) (Q : St → Hp → Prop), Inv X pins σ H s → RelV v u → t v σ H Q →
    wpAny (model X.prog X.w) X.A (assign target X.env u) (fun _ s' => ∃ σ' H', Inv X pins σ' H' s' ∧ Q σ' H') X.xe s
/-- several targets, one after another -/
def PGs (X : Cx) (ts : List Expr) (t : TGs) : Prop :=
  ∀ (pins : List (Addr × Obj)) (s : Shared) (σ : St) (H : Hp) (vs : List V) (us : List Value) (Q : St → Hp → Prop), Inv X pins σ H s → Vals vs us → t vs σ H Q →
    wpAny (model X.prog X.w) X.A (assignInOrder ((assignEach ts X.env).map (·.2)) us) (fun _ s' => ∃ σ' H', Inv X pins σ' H' s' ∧ Q σ' H') X.xe s
/-- o[i] = v, by values -/
abbrev TSet := V → V → V → Hp → (Hp → Prop) → Prop
def PSet (X : Cx) (t : TSet) : Prop :=
  ∀ (pins : List (Addr × Obj)) (s : Shared) (σ : St) (H : Hp) (o i v : V) (ov iv u : Value) (Q : Hp → Prop), Inv X pins σ H s → RelV o ov → RelV i iv → RelV v u → t o i v H Q →
    wpAny (model X.prog X.w) X.A (setItem ov iv u) (fun _ s' => ∃ H', Inv X pins σ H' s' ∧ Q H') X.xe s
/-- a op= b, by values -/
abbrev TIp := V → V → Hp → VK → Prop
def PIp (X : Cx) (op : Operator) (t : TIp) : Prop :=
  ∀ (pins : List (Addr × Obj)) (s : Shared) (σ : St) (H : Hp) (x y : V) (v u : Value) (Q : VK), Inv X pins σ H s → RelV x v → RelV y u → t x y H Q →
    wpAny (model X.prog X.w) X.A (inplaceOp op v u) (EP X pins σ Q) X.xe s
section
variable {X : Cx} {pos : Pos}
def gName (i : Nat) : TG := fun v σ H Q => Q (σ.set i (some v)) H
theorem pg_name {i : Nat} {x : Str} (hN : X.N.Nodup) (hi : X.N[i]? = some x) (hx : Loc X.env.scope x) (hf : X.fn x = true ∨ X.env.scope.names.lookup x = some .local := by first | exact .inl rfl | exact .inr rfl | assumption) : PG X (.Name x pos) (gName i) := by
  intro pins s σ H v u Q I r h
  exact wpAny_assign_Name (store_ok I hN hi hx r (fun s' I' => ⟨_, H, I', h⟩) hf)
def gNil : TGs := fun vs σ H Q => vs = [] ∧ Q σ H
def gCons (t : TG) (u : TGs) : TGs := fun vs σ H Q => ∃ v r, vs = v :: r ∧ t v σ H fun σ' H' => u r σ' H' Q
theorem pgs_nil : PGs X [] gNil := by
  intro pins s σ H vs us Q I r h
  obtain ⟨e, h⟩ := h
  subst e
  cases r
  exact assignInOrder_nil ⟨σ, H, I, h⟩
theorem pgs_cons {e : Expr} {es : List Expr} {t : TG} {u : TGs} (h1 : PG X e t) (h2 : PGs X es u)
    (hs : (assignEach (e :: es) X.env).map (·.2) = assign e X.env :: (assignEach es X.env).map (·.2) := by rfl) : PGs X (e :: es) (gCons t u) := by
  intro pins s σ H vs us Q I r h
  obtain ⟨v, vr, e1, h⟩ := h
  subst e1
  cases r with
  | cons r rr =>
    rw [hs]
    refine assignInOrder_cons (thn (h1 pins s σ H _ _ _ I r h) fun _ s1 ⟨σ1, H1, I1, q1⟩ => ?_)
    exact h2 pins s1 σ1 H1 _ _ Q I1 rr q1
/-- (a, b, ..) = a tuple of that length -/
def gTup (K : PySem.W.Frag) (n : Nat) (t : TGs) : TG := fun v σ H Q => ∃ a xs, v = .ref a ∧ SqT K H a xs ∧ xs.length = n ∧ t xs σ H Q
theorem pg_tup {es : List Expr} {k : Nat} {t : TGs} {n : Nat} (hc : X.calm = true) (h : PGs X es t)
    (hn : (assignEach es X.env).length = n := by rfl) (hst : (assignEach es X.env).findIdx? (·.1) = none := by rfl) : PG X (.Tuple es k pos) (gTup X.K n t) := by
  intro pins s σ H v u Q I r hw
  obtain ⟨a, xs, e1, hq, hl, hw⟩ := hw
  subst e1
  cases r
  obtain ⟨its, rv, ht, hz⟩ := I.tuple hq
  refine assign_Tuple_tuple (I.ok.hd hc) ht (by simp [hn, ← hl, rv.length]) hst fun h' hx => ?_
  have I1 : Inv X pins σ H { s with heap := h' } := I.kept (t' := s.toks) fun b o e => hx b o (Nat.ne_of_lt (Heap.lt_size e)) e
  exact h pins _ σ H xs _ Q I1 (by simpa using rv) hw
/-- o[i] = .. -/
def gSub (to ti : TE) (t : TSet) : TG := fun v σ H Q => to σ H fun o H1 => ti σ H1 fun i H2 => t o i v H2 fun H3 => Q σ H3
theorem pg_sub {o i : Expr} {to ti : TE} {t : TSet} (ho : PE X o to) (hi : PE X i ti) (hs : PSet X t)
    (ha : ∀ v, assign (.Subscript o i pos) X.env v = (do
      let ov ← holding [v] (eval o X.env)
      let iv ← holding [v, ov] (eval i X.env)
      standAt pos
      holding [v, ov, iv] (setItem ov iv v)
      release [v, ov, iv] []) := by intro _; rfl) : PG X (.Subscript o i pos) (gSub to ti t) := by
  intro pins s σ H v u Q I r h
  rw [ha]
  refine wpAny_bind (wpAny_holding (thn (ho pins s σ H _ I h) fun ov s1 ⟨x, H1, I1, r1, q1⟩ => ?_))
  refine wpAny_bind (wpAny_holding (thn (hi pins s1 σ H1 _ I1 q1) fun iv s2 ⟨y, H2, I2, r2, q2⟩ => ?_))
  refine wpAny_bind (wpAny_standAt (wpAny_bind (wpAny_holding (thn (hs pins s2 σ H2 x y v ov iv u _ I2 r1 r2 r q2) fun _ s3 ⟨H3, I3, q3⟩ => ?_))))
  exact wpAny_release ⟨σ, H3, I3, q3⟩
/-- target = value -/
def tAsg (te : TE) (g : TG) : TS := fun D σ H => te σ H fun x H1 => g x σ H1 D.nx
theorem ps_asg {tg e : Expr} {te : TE} {g : TG} (he : PE X e te) (hg : PG X tg g) (hs : swapsWithSole [tg] e pos.line X.env = pure false := by rfl) (hw : swappedStores [tg] e X.env = pure none := by rfl)
    (h1 : (assignEach [tg] X.env).map (·.2) = [assign tg X.env] := by rfl) : PS X (.Assign [tg] e pos) (tAsg te g) := by
  intro pins s σ H D I h
  refine wpAny_Assign_stores (thn (he pins s σ H _ I h) fun v s1 ⟨x, H1, I1, r1, q1⟩ => ?_) hs hw
  rw [h1]
  exact thn (hg pins s1 σ H1 x v _ I1 r1 q1) fun _ s2 q => q
/-- name = value -/
theorem ps_set {i : Nat} {x : Str} {e : Expr} {te : TE} {pos' : Pos} (hN : X.N.Nodup) (hi : X.N[i]? = some x) (hx : Loc X.env.scope x) (he : PE X e te) (hs : swapsWith e (some (.Name x pos')) pos.line X.env = pure false := by rfl) (hf : X.fn x = true ∨ X.env.scope.names.lookup x = some .local := by first | exact .inl rfl | exact .inr rfl | assumption) :
    PS X (.Assign [.Name x pos'] e pos) (tAsg te (gName i)) := by
  intro pins s σ H D I h
  refine wpAny_Assign_Name (thn (he pins s σ H _ I h) fun v s1 ⟨y, H1, I1, r1, q1⟩ => ?_) hs
  exact store_ok I1 hN hi hx r1 (fun s2 I2 => ⟨_, H1, I2, q1⟩) hf
/-- a, b = x, y with plain local names: stored from the right; the pair itself is not tracked (the opening rows as in PyProof/Rows/TupAssign.lean:23) -/
def tPar (i j : Nat) (ta : TA) : TS := fun D σ H => ta σ H fun vs H1 => ∃ v w, vs = [v, w] ∧ D.nx ((σ.set i (some v)).set j (some w)) H1
/-- name op= e -/
def tAug (i : Nat) (te : TE) (ti : TIp) : TS := fun D σ H => ∃ x, σ[i]? = some (some x) ∧ te σ H fun y H1 => ti x y H1 fun z H2 => D.nx (σ.set i (some z)) H2
/-- o[i] op= e -/
def tAugS (to ti te : TE) (tget : V → V → Hp → VK → Prop) (tip : TIp) (tset : TSet) : TS := fun D σ H => to σ H fun o H1 => ti σ H1 fun i H2 => tget o i H2 fun x H3 => te σ H3 fun y H4 => tip x y H4 fun z H5 => tset o i z H5 fun H6 => D.nx σ H6
/-- o[i], by values -/
def PGet (X : Cx) (t : V → V → Hp → VK → Prop) : Prop :=
  ∀ (pins : List (Addr × Obj)) (s : Shared) (σ : St) (H : Hp) (o i : V) (ov iv : Value) (Q : VK), Inv X pins σ H s → RelV o ov → RelV i iv → t o i H Q →
    wpAny (model X.prog X.w) X.A (getItem ov iv) (EP X pins σ Q) X.xe s
/-- ints -/
def ipI (f : Int → Int → Int) : TIp := fun x y H Q => ∃ i j, x = .int i ∧ y = .int j ∧ Q (.int (f i j)) H
end

/-! ### while -/
section
variable {X : Cx} {pos : Pos}
/-- the invariant W with its measure -/
def tWhile (c : TT) (tb : TS) : TS := fun D σ H => ∃ W : Nat → St → Hp → Prop, (∃ m, W m σ H) ∧ ∀ m σ H, W m σ H →
  c σ H fun b H1 => if b = true then ∃ N : St → Hp → Prop, (∀ σ' H', N σ' H' → ∃ m', m' < m ∧ W m' σ' H') ∧ tb { D with nx := N, ct := N, bk := D.nx } σ H1 else D.nx σ H1
theorem ps_while {c : Expr} {body : List Stmt} {tc : TT} {tb : TS} (hp : PassesOwn (model X.prog X.w) X.A X.env X.xe) (hc : PT X c tc) (hb : PSs X body tb) : PS X (.While c body [] pos) (tWhile tc tb) := by
  intro pins s σ H D I h
  obtain ⟨W, ⟨m0, w0⟩, turn⟩ := h
  refine wpAny_While (codeAny_whileLoop (fun n s' => ∃ σ' H', Inv X pins σ' H' s' ∧ W n σ' H') ?_ m0 ⟨σ, H, I, w0⟩)
  rintro n s1 ⟨σ1, H1, I1, w1⟩
  refine wpAny_passesOwn hp (thn (hc pins s1 σ1 H1 _ I1 (turn n σ1 H1 w1)) fun b s2 ⟨H2, I2, q2⟩ => ?_)
  cases b with
  | true =>
    obtain ⟨N, hN, q2⟩ := q2
    rw [if_pos rfl]
    refine wpAny_passesOwn hp (thn (hb pins s2 σ1 H2 _ I2 q2) fun f s3 q3 => ?_)
    cases f with
    | next =>
      obtain ⟨σ3, H3, I3, n3⟩ := q3
      obtain ⟨m', hm, w3⟩ := hN σ3 H3 n3
      exact ⟨m', hm, σ3, H3, I3, w3⟩
    | cont =>
      obtain ⟨σ3, H3, I3, n3⟩ := q3
      obtain ⟨m', hm, w3⟩ := hN σ3 H3 n3
      exact ⟨m', hm, σ3, H3, I3, w3⟩
    | brk => exact q3
    | ret v => exact q3
  | false =>
    rw [if_neg Bool.false_ne_true]
    exact wpAny_execs_nil ⟨σ1, H2, I2, q2⟩
end

/-! ### what a loop or a comprehension walks -/
/-- at turn i: it yields x (the heap may grow), or it stops -/
structure It where
  go : Nat → Hp → Prop
  yld : Nat → Hp → V → Hp → Prop
  stop : Nat → Hp → Prop
/-- the iterator's own objects may turn: they are not the frame's, not pinned, younger than the entry (or a comprehension's own) -/
def FpOk (X : Cx) (pins : List (Addr × Obj)) (H : Hp) (b : Addr) : Prop :=
  H b = none ∧ b ≠ X.env.locals ∧ b ∉ X.fs ∧ (b ∈ X.ex ∨ X.s₀.heap.objs.size ≤ b) ∧ (∀ x c, X.env.cells.lookup x = some c → c ≠ b) ∧ ∀ p ∈ X.pn ++ pins, p.1 ≠ b
theorem Inv.fpOk {X : Cx} {pins : List (Addr × Obj)} {σ : St} {H H' : Hp} {s : Shared} {b : Addr} (I : Inv X pins σ H s) (hb : s.heap.objs.size ≤ b) (hn : H' b = none) : FpOk X pins H' b := by
  refine ⟨hn, Nat.ne_of_gt (Nat.lt_of_lt_of_le I.lt hb), I.nofs hb, .inr (Nat.le_trans I.sz hb), fun x c e z => ?_, fun p hp z => ?_⟩
  · obtain ⟨v, q⟩ := I.cell x c e
    exact absurd (Nat.lt_of_lt_of_le q.lt (by rw [z]; exact hb)) (Nat.lt_irrefl _)
  · exact absurd (Nat.lt_of_lt_of_le (Heap.lt_size (I.pin p hp).1) (by rw [z]; exact hb)) (Nat.lt_irrefl _)
structure Turn (P : Program) (w : World) (K : PySem.W.Frag) (tg : Expr) (J : It) (fp : List Addr) (it : Addr) (tn : Nat → Heap → Prop) : Prop where
  mem : it ∈ fp
  obj : ∀ i h, tn i h → ∀ b ∈ fp, ∃ o, h.get? b = some o ∧ ∀ v, o.data ≠ .cell v
  keep : ∀ i h h', tn i h → (∀ b ∈ fp, ∀ o, h.get? b = some o → h'.get? b = some o) → tn i h'
  item : ∀ (X : Cx), X.prog = P → X.w = w → X.K = K → X.calm = true → ∀ (i : Nat) (pins : List (Addr × Obj)) (s : Shared) (σ : St) (H : Hp) (E : Value → Shared → Prop), Inv X pins σ H s → (∀ b ∈ fp, FpOk X pins H b) → tn i s.heap → J.go i H →
    wpAny (model P w) X.A (pyNext (.ref it)) (fun r s1 => ∃ u, r = some u ∧
      wpAny (model P w) X.A (letOwnedTupleGo tg (.ref it) u) (fun _ s2 => ∃ x H', Inv X pins σ H' s2 ∧ RelV x u ∧ J.yld i H x H' ∧ tn (i + 1) s2.heap ∧ ∀ b ∈ fp, H' b = none) E s1) E s
  done : ∀ (X : Cx), X.prog = P → X.w = w → X.K = K → X.calm = true → ∀ (i : Nat) (pins : List (Addr × Obj)) (s : Shared) (σ : St) (H : Hp) (E : Value → Shared → Prop), Inv X pins σ H s → (∀ b ∈ fp, FpOk X pins H b) → tn i s.heap → J.stop i H →
    wpAny (model P w) X.A (pyNext (.ref it)) (fun r s1 => r = none ∧ Inv X pins σ H s1) E s
  self : ∀ (A : Around) (i : Nat) (s : Shared) (Q : Value → Shared → Prop) (E : Value → Shared → Prop), tn i s.heap → Q (.ref it) s → wpAny (model P w) A (pyIter (.ref it)) Q E s
abbrev TI := St → Hp → (It → Hp → Prop) → Prop
/-- an iterator has come -/
def PIE (X : Cx) (pins : List (Addr × Obj)) (σ : St) (tg : Expr) (R : It → Hp → Prop) (itv : Value) (s2 : Shared) : Prop :=
  ∃ (it : Addr) (fp : List Addr) (tn : Nat → Heap → Prop) (J : It) (H' : Hp), itv = .ref it ∧ Inv X pins σ H' s2 ∧ Turn X.prog X.w X.K tg J fp it tn ∧ tn 0 s2.heap ∧ (∀ b ∈ fp, FpOk X pins H' b) ∧ R J H'
def PI (X : Cx) (tg iter : Expr) (wi : TI) : Prop :=
  ∀ (pins : List (Addr × Obj)) (s : Shared) (σ : St) (H : Hp) (R : It → Hp → Prop), Inv X pins σ H s → wi σ H R →
    wpAny (model X.prog X.w) X.A (eval iter X.env) (fun v s1 => wpAny (model X.prog X.w) X.A (pyIter v) (PIE X pins σ tg R) X.xe s1) X.xe s

/-- the step ahead of the store is nothing for an iterator that keeps no tuple -/
theorem go_of {M : Model} {A : Around} {E : Value → Shared → Prop} {s : Shared} {tg : Expr} {it : Addr} {u : Value} {o : Obj} {n : String} {vs : Array Value} {Q : Unit → Shared → Prop} (ho : s.heap.get? it = some o) (hc : o.cls = .type n) (hd : o.data = .fields vs)
    (hn : ["enumerate", "zip", "dict_itemiterator", "dict_reverseitemiterator", "odict_iterator", "itertools.zip_longest", "itertools.pairwise"].contains n = false) (hQ : Q () s) : wpAny M A (letOwnedTupleGo tg (.ref it) u) Q E s := by
  unfold letOwnedTupleGo
  cases tg <;> first
    | exact wpAny_pure hQ
    | (cases u <;> first
        | exact wpAny_pure hQ
        | (refine wpAny_bind (wpAny_load ho ?_)
           rw [hc, hd]
           show wpAny M A (if (["enumerate", "zip", "dict_itemiterator", "dict_reverseitemiterator", "odict_iterator", "itertools.zip_longest", "itertools.pairwise"].contains n && vs[0]? == some (rawInt _)) = true then _ else _) Q E s
           rw [if_neg (by intro h; rw [hn, Bool.false_and] at h; cases h)]
           exact wpAny_pure hQ))

/-- the list at a, as it stands at each turn (a loop may append to it) -/
def Itl (K : PySem.W.Frag) (a : Addr) : It :=
  ⟨fun i H => ∃ xs x, SqL K H a xs ∧ xs[i]? = some x, fun i H x H' => H' = H ∧ ∀ xs, SqL K H a xs → xs[i]? = some x, fun i H => ∃ xs, SqL K H a xs ∧ xs.length ≤ i⟩
def Itt (K : PySem.W.Frag) (a : Addr) : It :=
  ⟨fun i H => ∃ xs x, SqT K H a xs ∧ xs[i]? = some x, fun i H x H' => H' = H ∧ ∀ xs, SqT K H a xs → xs[i]? = some x, fun i H => ∃ xs, SqT K H a xs ∧ xs.length ≤ i⟩
/-- lo, lo + 1, .. (n of them) -/
def Itr (lo : Int) (n : Nat) : It := ⟨fun i _ => i < n, fun i H x H' => H' = H ∧ x = .int (lo + i), fun i _ => n ≤ i⟩
theorem turn_list {P : Program} {w : World} {K : PySem.W.Frag} {tg : Expr} (a it : Addr) : Turn P w K tg (Itl K a) [it] it (fun i h => h.IsListIter it a i) where
  mem := by simp
  obj := fun i h st b hb => by
    have e : b = it := by simpa using hb
    subst e
    obtain ⟨o, e, c, d⟩ := st
    exact ⟨o, e, fun v z => by rw [d] at z; cases z⟩
  keep := fun i h h' st k => st.at fun o e => k it (by simp) o e
  item := by
    intro X hP hw hK hc i pins s σ H E I hf st hg
    subst hP hw hK
    obtain ⟨xs, x, hq, hx⟩ := hg
    obtain ⟨its, rv, p, hz⟩ := I.list hq
    obtain ⟨u, hu, ru⟩ := rv.get hx
    obtain ⟨f0, f1, f2, f3, f4, f5⟩ := hf it (by simp)
    refine wpAny_pyNext_list_item st p.isList (x := u) (by simpa using hu) fun h' st' sb => ?_
    have I1 : Inv X pins σ H { s with heap := h' } := I.turned (t' := s.toks) (fun b o hb e => (sb.2 b hb).trans e) f0 f1 f3 f4 f5
    obtain ⟨o, e, c, d⟩ := id st'
    exact ⟨u, rfl, go_of (s := { s with heap := h' }) e c d (by decide) ⟨x, H, I1, ru, ⟨rfl, fun ys hy => by rw [I.list_inj hy hq]; exact hx⟩, st', fun b hb => (hf b hb).1⟩⟩
  done := by
    intro X hP hw hK hc i pins s σ H E I hf st hg
    subst hP hw hK
    obtain ⟨xs, hq, hx⟩ := hg
    obtain ⟨its, rv, p, hz⟩ := I.list hq
    obtain ⟨f0, f1, f2, f3, f4, f5⟩ := hf it (by simp)
    have hl := rv.length
    exact wpAny_pyNext_list_end (I.ok.hd hc) st p.isList (by simp; omega) fun h' eb => ⟨rfl, I.turned (t' := s.toks) (fun b o hb e => eb b o hb e) f0 f1 f3 f4 f5⟩
  self := fun _ _ _ _ _ st h => wpAny_pyIter_listiter st h
theorem turn_tuple {P : Program} {w : World} {K : PySem.W.Frag} {tg : Expr} (a it : Addr) : Turn P w K tg (Itt K a) [it] it (fun i h => h.IsTupleIter it a i) where
  mem := by simp
  obj := fun i h st b hb => by
    have e : b = it := by simpa using hb
    subst e
    obtain ⟨o, e, c, d⟩ := st
    exact ⟨o, e, fun v z => by rw [d] at z; cases z⟩
  keep := fun i h h' st k => st.at fun o e => k it (by simp) o e
  item := by
    intro X hP hw hK hc i pins s σ H E I hf st hg
    subst hP hw hK
    obtain ⟨xs, x, hq, hx⟩ := hg
    obtain ⟨its, rv, p, hz⟩ := I.tuple hq
    obtain ⟨u, hu, ru⟩ := rv.get hx
    obtain ⟨f0, f1, f2, f3, f4, f5⟩ := hf it (by simp)
    refine wpAny_pyNext_tuple_item st (show s.heap.IsTuple a its.toArray from p) (x := u) (by simpa using hu) fun h' st' sb => ?_
    have I1 : Inv X pins σ H { s with heap := h' } := I.turned (t' := s.toks) (fun b o hb e => (sb.2 b hb).trans e) f0 f1 f3 f4 f5
    obtain ⟨o, e, c, d⟩ := id st'
    exact ⟨u, rfl, go_of (s := { s with heap := h' }) e c d (by decide) ⟨x, H, I1, ru, ⟨rfl, fun ys hy => by rw [I.tuple_inj hy hq]; exact hx⟩, st', fun b hb => (hf b hb).1⟩⟩
  done := by
    intro X hP hw hK hc i pins s σ H E I hf st hg
    subst hP hw hK
    obtain ⟨xs, hq, hx⟩ := hg
    obtain ⟨its, rv, p, hz⟩ := I.tuple hq
    obtain ⟨f0, f1, f2, f3, f4, f5⟩ := hf it (by simp)
    have hl := rv.length
    exact wpAny_pyNext_tuple_end (I.ok.hd hc) st (show s.heap.IsTuple a its.toArray from p) (by simp; omega) fun h' eb => ⟨rfl, I.turned (t' := s.toks) (fun b o hb e => eb b o hb e) f0 f1 f3 f4 f5⟩
  self := fun _ _ _ _ _ st h => wpAny_pyIter_tupleiter st h
theorem turn_range {P : Program} {w : World} {K : PySem.W.Frag} {tg : Expr} (it : Addr) (lo : Int) (n : Nat) : Turn P w K tg (Itr lo n) [it] it (fun i h => IsRangeIter h it (lo + (i : Nat) * 1) ((n : Int) - (i : Nat)) 1) where
  mem := by simp
  obj := fun i h st b hb => by
    have e : b = it := by simpa using hb
    subst e
    exact ⟨_, st, fun v z => by
      have z' : Data.fields _ = Data.cell v := z
      cases z'⟩
  keep := fun i h h' st k => k it (by simp) _ st
  item := by
    intro X hP hw hK hc i pins s σ H E I hf st hg
    subst hP hw hK
    obtain ⟨f0, f1, f2, f3, f4, f5⟩ := hf it (by simp)
    have W := Walks.range (prog := X.prog) (w := X.w) (I.ok.hd hc) it lo 1 n
    refine W.item i s _ _ hg st fun v h' tk hv st' kk => ?_
    obtain ⟨t, rfl⟩ := hv
    have I1 : Inv X pins σ H { s with heap := h', toks := tk } := I.turned (fun b o hb e => kk b o (by simpa using hb) e) f0 f1 f3 f4 f5
    refine ⟨_, rfl, go_of (s := { s with heap := h', toks := tk }) (n := "range_iterator") st' rfl rfl (by decide) ⟨.int (lo + i), H, I1, ⟨t, ?_⟩, ⟨rfl, rfl⟩, st', fun b hb => (hf b hb).1⟩⟩
    rw [Int.mul_one]
  done := by
    intro X hP hw hK hc i pins s σ H E I hf st hg
    subst hP hw hK
    obtain ⟨f0, f1, f2, f3, f4, f5⟩ := hf it (by simp)
    exact wpAny_pyNext_range_end (I.ok.hd hc) st (by have : n ≤ i := hg; omega) fun h' eb => ⟨rfl, I.turned (t' := s.toks) (fun b o hb e => eb b o hb e) f0 f1 f3 f4 f5⟩
  self := fun _ _ _ _ _ st h => wpAny_pyIter_rangeiter st h
end L2

namespace L2
open PySem PySem.Spec PyProof.Rows
section
variable {X : Cx} {tg : Expr}
def iList (K : PySem.W.Frag) (tl : TE) : TI := fun σ H R => tl σ H fun x H1 => ∃ a, x = .ref a ∧ (∃ xs, SqL K H1 a xs) ∧ R (Itl K a) H1
def iTup (K : PySem.W.Frag) (tl : TE) : TI := fun σ H R => tl σ H fun x H1 => ∃ a, x = .ref a ∧ (∃ xs, SqT K H1 a xs) ∧ R (Itt K a) H1
theorem pi_list {l : Expr} {tl : TE} (hl : PE X l tl) : PI X tg l (iList X.K tl) := by
  intro pins s σ H R I h
  refine thn (hl pins s σ H _ I h) fun v s1 ⟨x, H1, I1, r1, q1⟩ => ?_
  obtain ⟨a, e, ⟨xs, hq⟩, q⟩ := q1
  subst e
  cases r1
  obtain ⟨its, rv, p, hz⟩ := I1.list hq
  refine wpAny_pyIter_list p.isList ?_
  refine ⟨s1.heap.objs.size, [s1.heap.objs.size], _, _, H1, rfl, I1.kept (t' := s1.toks) fun b o e => Heap.get?_push_of_some _ e, turn_list a _, ⟨_, Heap.get?_push_size _ rfl, rfl, rfl⟩, fun b hb => ?_, q⟩
  have e : b = s1.heap.objs.size := by simpa using hb
  subst e
  exact I1.fpOk (Nat.le_refl _) (I1.hok.fresh (Nat.le_refl _))
theorem pi_tup {l : Expr} {tl : TE} (hl : PE X l tl) : PI X tg l (iTup X.K tl) := by
  intro pins s σ H R I h
  refine thn (hl pins s σ H _ I h) fun v s1 ⟨x, H1, I1, r1, q1⟩ => ?_
  obtain ⟨a, e, ⟨xs, hq⟩, q⟩ := q1
  subst e
  cases r1
  obtain ⟨its, rv, p, hz⟩ := I1.tuple hq
  refine wpAny_pyIter_tuple (show s1.heap.IsTuple a its.toArray from p) ?_
  refine ⟨s1.heap.objs.size, [s1.heap.objs.size], _, _, H1, rfl, I1.kept (t' := s1.toks) fun b o e => Heap.get?_push_of_some _ e, turn_tuple a _, ⟨_, Heap.get?_push_size _ rfl, rfl, rfl⟩, fun b hb => ?_, q⟩
  have e : b = s1.heap.objs.size := by simpa using hb
  subst e
  exact I1.fpOk (Nat.le_refl _) (I1.hok.fresh (Nat.le_refl _))
/-- a range object just made, walked -/
theorem range_it {pins : List (Addr × Obj)} {σ : St} {H : Hp} {s : Shared} {R : It → Hp → Prop} {E : Value → Shared → Prop} {lo hi : Int} {t u v : Tok} {tk : Nat} (I : Inv X pins σ H s) (h1 : -(2 ^ 62) ≤ lo) (h2 : lo < 2 ^ 62) (h3 : -(2 ^ 62) ≤ hi) (h4 : hi < 2 ^ 62)
    (q : R (Itr lo (hi - lo).toNat) H) : wpAny (model X.prog X.w) X.A (pyIter (.ref s.heap.objs.size)) (PIE X pins σ tg R) E { s with heap := s.heap.push { cls := .type "range", data := .fields #[.int lo t, .int hi u, .int 1 v] }, toks := tk } := by
  refine wpAny_pyIter_range (IsRange.new ..) (small_one h1 h2 h3 h4) ?_
  have I1 : Inv X pins σ H { s with heap := s.heap.push { cls := .type "range", data := .fields #[.int lo t, .int hi u, .int 1 v] }, toks := tk } := I.kept fun b o e => Heap.get?_push_of_some _ e
  refine ⟨(s.heap.push { cls := .type "range", data := .fields #[.int lo t, .int hi u, .int 1 v] }).objs.size, [(s.heap.push { cls := .type "range", data := .fields #[.int lo t, .int hi u, .int 1 v] }).objs.size], _, _, H, rfl,
    I1.kept (t' := tk) fun b o e => Heap.get?_push_of_some _ e, turn_range _ lo (hi - lo).toNat, ?_, fun b hb => ?_, q⟩
  · have e1 : lo + ((0 : Nat) : Int) * 1 = lo := by simp
    have e2 : (((hi - lo).toNat : Nat) : Int) - ((0 : Nat) : Int) = Builtin.Range.rangeSize lo hi 1 := by rw [rangeSize_one]; split <;> omega
    show IsRangeIter _ _ (lo + ((0 : Nat) : Int) * 1) ((((hi - lo).toNat : Nat) : Int) - ((0 : Nat) : Int)) 1
    rw [e1, e2]
    exact Heap.get?_push_size _ rfl
  · have e : b = (s.heap.push { cls := .type "range", data := .fields #[.int lo t, .int hi u, .int 1 v] }).objs.size := by simpa using hb
    subst e
    exact I1.fpOk (Nat.le_refl _) (I1.hok.fresh (Nat.le_refl _))
def iRng1 (ta : TA) : TI := fun σ H R => ta σ H fun vs H1 => ∃ j : Int, vs = [.int j] ∧ -(2 ^ 62) ≤ j ∧ j < 2 ^ 62 ∧ R (Itr 0 j.toNat) H1
def iRng2 (ta : TA) : TI := fun σ H R => ta σ H fun vs H1 => ∃ i j : Int, vs = [.int i, .int j] ∧ (-(2 ^ 62) ≤ i ∧ i < 2 ^ 62 ∧ -(2 ^ 62) ≤ j ∧ j < 2 ^ 62) ∧ R (Itr i (j - i).toNat) H1
theorem pi_range1 {a : Expr} {ta : TA} {p pos : Pos} (hg : Gl X "range") (hm : X.mg "range" = none) (ha : PA X [a] ta) (hs : starEach [a] X.env = [(false, eval a X.env)] := by rfl) : PI X tg (.Call (.Name "range" p) [a] [] pos) (iRng1 ta) := by
  intro pins s σ H R I h
  refine Call_ (ld_blt I hg hm boot_range (PyProof.Rows.callWith_type1 (thn (ha pos pins s σ H _ I h) fun us s1 ⟨vs, H1, I1, r1, q1⟩ => ?_) hs rfl))
  obtain ⟨j, e, q1, q2, q⟩ := q1
  subst e
  cases r1 with
  | cons r rr =>
    cases rr
    obtain ⟨t, rfl⟩ := r
    exact call_range_1 (range_it I1 (by omega) (by omega) q1 q2 (by simpa using q))

/-! ### for -/
/-- W: the invariant by the turn and a measure; N: what the body is to reach -/
def tFor (wi : TI) (g : TG) (tb : TS) : TS := fun D σ H => wi σ H fun J H1 => ∃ W : Nat → Nat → St → Hp → Prop, (∃ m, W 0 m σ H1) ∧ ∀ i m σ H, W i m σ H →
  (J.stop i H ∧ D.nx σ H) ∨ (J.go i H ∧ ∃ N : St → Hp → Prop, (∀ σ' H', N σ' H' → ∃ m', m' < m ∧ W (i + 1) m' σ' H') ∧ ∀ x H', J.yld i H x H' → g x σ H' fun σ2 H2 => tb { D with nx := N, ct := N, bk := D.nx } σ2 H2)
/-- the records at fp as they stand -/
def pinsAt (fp : List Addr) (h : Heap) : List (Addr × Obj) := fp.filterMap fun b => (h.get? b).map fun o => (b, o)
theorem mem_pinsAt {fp : List Addr} {h : Heap} {b : Addr} {o : Obj} (hb : b ∈ fp) (e : h.get? b = some o) : (b, o) ∈ pinsAt fp h := List.mem_filterMap.mpr ⟨b, hb, by rw [e]; rfl⟩
theorem of_pinsAt {fp : List Addr} {h : Heap} {p : Addr × Obj} (hp : p ∈ pinsAt fp h) : p.1 ∈ fp ∧ h.get? p.1 = some p.2 := by
  obtain ⟨b, hb, e⟩ := List.mem_filterMap.mp hp
  cases q : h.get? b with
  | none => rw [q] at e; cases e
  | some o =>
    rw [q] at e
    have e' : (b, o) = p := Option.some.inj e
    subst e'
    exact ⟨hb, q⟩
theorem Inv.pinned {pins : List (Addr × Obj)} {σ : St} {H : Hp} {s : Shared} {fp : List Addr} (I : Inv X pins σ H s) (hf : ∀ b ∈ fp, FpOk X pins H b) (ho : ∀ b ∈ fp, ∃ o, s.heap.get? b = some o ∧ ∀ v, o.data ≠ .cell v) : Inv X (pins ++ pinsAt fp s.heap) σ H s :=
  I.pins_of fun p hp => (List.mem_append.mp hp).elim (fun z => I.pin p (List.mem_append_right _ z)) fun z => by
    obtain ⟨hb, e⟩ := of_pinsAt z
    obtain ⟨f0, f1, f2, _⟩ := hf p.1 hb
    obtain ⟨o, e', d⟩ := ho p.1 hb
    rw [e] at e'; cases e'
    exact ⟨e, f0, f1, f2, d⟩
theorem Inv.unpinned {pins pl : List (Addr × Obj)} {σ : St} {H : Hp} {s : Shared} (I : Inv X (pins ++ pl) σ H s) : Inv X pins σ H s := I.pins_of fun p hp => I.pin p (List.mem_append_right _ (List.mem_append_left _ hp))
theorem ps_for {iter : Expr} {body : List Stmt} {wi : TI} {g : TG} {tb : TS} {pos : Pos} (hp : PassesOwn (model X.prog X.w) X.A X.env X.xe) (hc : X.calm = true) (hi : PI X tg iter wi) (hg : PG X tg g) (hb : PSs X body tb)
    (hs : ∀ x, foldedSetIterable iter X.env x = pure x := by intro _; rfl) : PS X (.For tg iter body [] pos) (tFor wi g tb) := by
  intro pins s σ H D I h
  refine wpAny_For (thn (hi pins s σ H _ I h) fun v s1 h1 => thn h1 fun itv s2 h2 => ?_) hs
  obtain ⟨it, fp, tn, J, H2, e, I2, T, st2, f2, W, ⟨m0, w0⟩, turn⟩ := h2
  subst e
  -- what stays true of the iterator's objects through the loop
  have stat : ∀ {H' : Hp}, (∀ b ∈ fp, H' b = none) → ∀ b ∈ fp, FpOk X pins H' b := fun hn b hb => ⟨hn b hb, (f2 b hb).2⟩
  refine codeAny_forLoop_any (fun n s' => ∃ i σ' H', Inv X pins σ' H' s' ∧ tn i s'.heap ∧ (∀ b ∈ fp, H' b = none) ∧ W i n σ' H') ?_ m0 ⟨0, σ, H2, I2, st2, fun b hb => (f2 b hb).1, w0⟩
  rintro n s3 ⟨i, σ3, H3, I3, st3, fr3, w3⟩
  rcases turn i n σ3 H3 w3 with ⟨stop, qn⟩ | ⟨go, N, hN, step⟩
  · refine wpAny_passesOwn hp (thn (T.done X rfl rfl rfl hc i pins s3 σ3 H3 X.xe I3 (stat fr3) st3 stop) fun r s4 ⟨hr, I4⟩ => ?_)
    subst hr
    exact wpAny_execs_nil ⟨σ3, H3, I4, qn⟩
  · refine wpAny_passesOwn hp (thn (T.item X rfl rfl rfl hc i pins s3 σ3 H3 X.xe I3 (stat fr3) st3 go) fun r s4 ⟨u, hr, h4⟩ => ?_)
    subst hr
    refine wpAny_passesOwn hp (thn h4 fun _ s5 ⟨x, H5, I5, r5, y5, st5, fr5⟩ => ?_)
    have I5' := I5.pinned (stat fr5) (T.obj _ _ st5)
    refine wpAny_passesOwn hp (thn (hg _ s5 σ3 H5 x u _ I5' r5 (step x H5 y5)) fun _ s6 ⟨σ6, H6, I6, q6⟩ => ?_)
    refine wpAny_passesOwn hp (thn (hb _ s6 σ6 H6 _ I6 q6) fun f s7 q7 => ?_)
    have again : ∀ {σ7 : St} {H7 : Hp}, Inv X (pins ++ pinsAt fp s5.heap) σ7 H7 s7 → N σ7 H7 → ∃ m, m < n ∧ ∃ i σ' H', Inv X pins σ' H' s7 ∧ tn i s7.heap ∧ (∀ b ∈ fp, H' b = none) ∧ W i m σ' H' := fun {σ7 H7} I7 n7 => by
      obtain ⟨m', hm, w7⟩ := hN σ7 H7 n7
      refine ⟨m', hm, i + 1, σ7, H7, I7.unpinned, T.keep _ _ _ st5 fun b hb o e => (I7.pin (b, o) (List.mem_append_right _ (List.mem_append_right _ (mem_pinsAt hb e)))).1, fun b hb => ?_, w7⟩
      obtain ⟨o, e, d⟩ := T.obj _ _ st5 b hb
      exact (I7.pin (b, o) (List.mem_append_right _ (List.mem_append_right _ (mem_pinsAt hb e)))).2.1
    cases f with
    | next => obtain ⟨σ7, H7, I7, n7⟩ := q7; exact again I7 n7
    | cont => obtain ⟨σ7, H7, I7, n7⟩ := q7; exact again I7 n7
    | brk => obtain ⟨σ7, H7, I7, q7⟩ := q7; exact ⟨σ7, H7, I7.unpinned, q7⟩
    | ret v => obtain ⟨x7, σ7, H7, I7, r7, q7⟩ := q7; exact ⟨x7, σ7, H7, I7.unpinned, r7, q7⟩
end

/-! ### the forms one uses -/
/-- over a list that the body leaves as it is -/
theorem for_list {K : PySem.W.Frag} {a : Addr} {xs : List V} {g : TG} {tb : TS} {D : Ends} {σ : St} {H : Hp} (Pv : Nat → St → Hp → Prop) (h0 : Pv 0 σ H) (hl : ∀ i σ H, i ≤ xs.length → Pv i σ H → SqL K H a xs)
    (hs : ∀ i x σ H, xs[i]? = some x → Pv i σ H → g x σ H fun σ2 H2 => tb { D with nx := Pv (i + 1), ct := Pv (i + 1), bk := D.nx } σ2 H2) (hd : ∀ σ H, Pv xs.length σ H → D.nx σ H) :
    ∃ W : Nat → Nat → St → Hp → Prop, (∃ m, W 0 m σ H) ∧ ∀ i m σ H, W i m σ H →
      ((Itl K a).stop i H ∧ D.nx σ H) ∨ ((Itl K a).go i H ∧ ∃ N : St → Hp → Prop, (∀ σ' H', N σ' H' → ∃ m', m' < m ∧ W (i + 1) m' σ' H') ∧ ∀ x H', (Itl K a).yld i H x H' → g x σ H' fun σ2 H2 => tb { D with nx := N, ct := N, bk := D.nx } σ2 H2) := by
  refine ⟨fun i m σ H => m = xs.length - i ∧ i ≤ xs.length ∧ Pv i σ H, ⟨xs.length, by simp, Nat.zero_le _, h0⟩, ?_⟩
  rintro i m σ H ⟨rfl, hi, p⟩
  have q := hl i σ H hi p
  by_cases hlt : i < xs.length
  · refine .inr ⟨⟨xs, xs[i], q, by simp [hlt]⟩, Pv (i + 1), fun σ' H' p' => ⟨xs.length - (i + 1), by omega, rfl, hlt, p'⟩, fun x H' y => ?_⟩
    obtain ⟨e, y⟩ := y
    subst e
    exact hs i x σ _ (y xs q) p
  · have e : i = xs.length := by omega
    subst e
    exact .inl ⟨⟨xs, q, Nat.le_refl _⟩, hd σ H p⟩
theorem for_tup {K : PySem.W.Frag} {a : Addr} {xs : List V} {g : TG} {tb : TS} {D : Ends} {σ : St} {H : Hp} (Pv : Nat → St → Hp → Prop) (h0 : Pv 0 σ H) (hl : ∀ i σ H, i ≤ xs.length → Pv i σ H → SqT K H a xs)
    (hs : ∀ i x σ H, xs[i]? = some x → Pv i σ H → g x σ H fun σ2 H2 => tb { D with nx := Pv (i + 1), ct := Pv (i + 1), bk := D.nx } σ2 H2) (hd : ∀ σ H, Pv xs.length σ H → D.nx σ H) :
    ∃ W : Nat → Nat → St → Hp → Prop, (∃ m, W 0 m σ H) ∧ ∀ i m σ H, W i m σ H →
      ((Itt K a).stop i H ∧ D.nx σ H) ∨ ((Itt K a).go i H ∧ ∃ N : St → Hp → Prop, (∀ σ' H', N σ' H' → ∃ m', m' < m ∧ W (i + 1) m' σ' H') ∧ ∀ x H', (Itt K a).yld i H x H' → g x σ H' fun σ2 H2 => tb { D with nx := N, ct := N, bk := D.nx } σ2 H2) := by
  refine ⟨fun i m σ H => m = xs.length - i ∧ i ≤ xs.length ∧ Pv i σ H, ⟨xs.length, by simp, Nat.zero_le _, h0⟩, ?_⟩
  rintro i m σ H ⟨rfl, hi, p⟩
  have q := hl i σ H hi p
  by_cases hlt : i < xs.length
  · refine .inr ⟨⟨xs, xs[i], q, by simp [hlt]⟩, Pv (i + 1), fun σ' H' p' => ⟨xs.length - (i + 1), by omega, rfl, hlt, p'⟩, fun x H' y => ?_⟩
    obtain ⟨e, y⟩ := y
    subst e
    exact hs i x σ _ (y xs q) p
  · have e : i = xs.length := by omega
    subst e
    exact .inl ⟨⟨xs, q, Nat.le_refl _⟩, hd σ H p⟩
theorem for_range {lo : Int} {n : Nat} {g : TG} {tb : TS} {D : Ends} {σ : St} {H : Hp} (Pv : Nat → St → Hp → Prop) (h0 : Pv 0 σ H)
    (hs : ∀ i σ H, i < n → Pv i σ H → g (.int (lo + i)) σ H fun σ2 H2 => tb { D with nx := Pv (i + 1), ct := Pv (i + 1), bk := D.nx } σ2 H2) (hd : ∀ σ H, Pv n σ H → D.nx σ H) :
    ∃ W : Nat → Nat → St → Hp → Prop, (∃ m, W 0 m σ H) ∧ ∀ i m σ H, W i m σ H →
      ((Itr lo n).stop i H ∧ D.nx σ H) ∨ ((Itr lo n).go i H ∧ ∃ N : St → Hp → Prop, (∀ σ' H', N σ' H' → ∃ m', m' < m ∧ W (i + 1) m' σ' H') ∧ ∀ x H', (Itr lo n).yld i H x H' → g x σ H' fun σ2 H2 => tb { D with nx := N, ct := N, bk := D.nx } σ2 H2) := by
  refine ⟨fun i m σ H => m = n - i ∧ i ≤ n ∧ Pv i σ H, ⟨n, by simp, Nat.zero_le _, h0⟩, ?_⟩
  rintro i m σ H ⟨rfl, hi, p⟩
  by_cases hlt : i < n
  · refine .inr ⟨hlt, Pv (i + 1), fun σ' H' p' => ⟨n - (i + 1), by omega, rfl, hlt, p'⟩, fun x H' y => ?_⟩
    obtain ⟨e, y⟩ := y
    subst e y
    exact hs i σ _ hlt p
  · have e : i = n := by omega
    subst e
    exact .inl ⟨Nat.le_refl _, hd σ H p⟩
end L2

namespace L2
open PySem PySem.Spec PyProof.Rows

abbrev R2 := V → V → Hp → VK → Prop
/-- a two-place operation on values: f is binaryOp op, inplaceOp op or compareOp op -/
def OpR (X : Cx) (f : Value → Value → Sem Value) (r : R2) : Prop :=
  ∀ (pins : List (Addr × Obj)) (s : Shared) (σ : St) (H : Hp) (x y : V) (v u : Value) (Q : VK), Inv X pins σ H s → RelV x v → RelV y u → r x y H Q →
    wpAny (model X.prog X.w) X.A (f v u) (EP X pins σ Q) X.xe s
/-- a one-place operation -/
def UnR (X : Cx) (f : Value → Sem Value) (r : V → Hp → VK → Prop) : Prop :=
  ∀ (pins : List (Addr × Obj)) (s : Shared) (σ : St) (H : Hp) (x : V) (v : Value) (Q : VK), Inv X pins σ H s → RelV x v → r x H Q →
    wpAny (model X.prog X.w) X.A (f v) (EP X pins σ Q) X.xe s
/-- a call of a value that is known (a builtin, a type) with values -/
def CallR (X : Cx) (f : Value) (r : List V → Hp → VK → Prop) : Prop :=
  ∀ (pins : List (Addr × Obj)) (s : Shared) (σ : St) (H : Hp) (xs : List V) (us : List Value) (Q : VK), Inv X pins σ H s → Vals xs us → r xs H Q →
    wpAny (model X.prog X.w) X.A (call f us) (EP X pins σ Q) X.xe s
/-- a value's truth -/
def TruR (X : Cx) (r : V → Hp → (Bool → Hp → Prop) → Prop) : Prop :=
  ∀ (pins : List (Addr × Obj)) (s : Shared) (σ : St) (H : Hp) (x : V) (v : Value) (Q : Bool → Hp → Prop), Inv X pins σ H s → RelV x v → r x H Q →
    wpAny (model X.prog X.w) X.A (truthy v) (TP X pins σ Q) X.xe s

def tOp (r : R2) (ta tb : TE) : TE := fun σ H Q => ta σ H fun x H1 => tb σ H1 fun y H2 => r x y H2 Q
def tUn (r : V → Hp → VK → Prop) (ta : TE) : TE := fun σ H Q => ta σ H fun x H1 => r x H1 Q
/-- ints in, under C, and a value out -/
def rI (C : Int → Int → Prop) (g : Int → Int → V) : R2 := fun x y H Q => ∃ i j, x = .int i ∧ y = .int j ∧ C i j ∧ Q (g i j) H
def rI0 (g : Int → Int → V) : R2 := fun x y H Q => ∃ i j, x = .int i ∧ y = .int j ∧ Q (g i j) H
def rU (g : Int → V) : V → Hp → VK → Prop := fun x H Q => ∃ i, x = .int i ∧ Q (g i) H

section
variable {X : Cx} {a b c : Expr} {ta tb tc : TE} {pos : Pos}

theorem binT (ha : PE X a ta) (hb : PE X b tb) {pins : List (Addr × Obj)} {s : Shared} {σ : St} {H : Hp} {R : V → V → Hp → Prop} (I : Inv X pins σ H s)
    (h : ta σ H fun x H1 => tb σ H1 fun y H2 => R x y H2) {Q : Value → Shared → Prop} {f : Value → Value → Sem Value}
    (hf : ∀ v u s2 x y H2, Inv X pins σ H2 s2 → RelV x v → RelV y u → R x y H2 → wpAny (model X.prog X.w) X.A (f v u) Q X.xe s2) :
    wpAny (model X.prog X.w) X.A (eval a X.env) (fun v s₁ => wpAny (model X.prog X.w) X.A (eval b X.env) (fun u s₂ => wpAny (model X.prog X.w) X.A (f v u) Q X.xe s₂) X.xe s₁) X.xe s := by
  refine thn (ha pins s σ H _ I h) fun v s1 ⟨x, H1, I1, r1, q1⟩ => ?_
  refine thn (hb pins s1 σ H1 _ I1 q1) fun u s2 ⟨y, H2, I2, r2, q2⟩ => ?_
  exact hf v u s2 x y H2 I2 r1 r2 q2

theorem pe_op {op : Operator} {r : R2} (ho : OpR X (binaryOp op) r) (ha : PE X a ta) (hb : PE X b tb) : PE X (.BinOp a op b pos) (tOp r ta tb) := by
  intro pins s σ H Q I h
  exact wpAny_BinOp (binT ha hb I h fun v u s2 x y H2 I2 rx ry q => ho pins s2 σ H2 x y v u Q I2 rx ry q)
theorem pe_un {op : UnaryOp} {r : V → Hp → VK → Prop} (ho : UnR X (unaryOp op) r) (ha : PE X a ta) : PE X (.UnaryOp op a pos) (tUn r ta) := by
  intro pins s σ H Q I h
  exact UnaryOp_ (thn (ha pins s σ H _ I h) fun v s1 ⟨x, H1, I1, r1, q1⟩ => ho pins s1 σ H1 x v Q I1 r1 q1)

/-! ### ints -/
theorem opI {f : Value → Value → Sem Value} {C : Int → Int → Prop} {g : Int → Int → Int}
    (rule : ∀ (i j : Int) (t u : Tok) (s : Shared) (Q : Value → Shared → Prop) (E : Value → Shared → Prop), C i j → Q (.int (g i j) s.toks) { s with toks := s.toks + 1 } → wpAny (model X.prog X.w) X.A (f (.int i t) (.int j u)) Q E s) :
    OpR X f (rI C fun i j => .int (g i j)) := by
  intro pins s σ H x y v u Q I rx ry h
  obtain ⟨i, j, rfl, rfl, hc, q⟩ := h
  obtain ⟨t, rfl⟩ := rx
  obtain ⟨t', rfl⟩ := ry
  exact rule i j t t' s _ _ hc ⟨.int (g i j), H, I.tok _, ⟨_, rfl⟩, q⟩
theorem opI0 {f : Value → Value → Sem Value} {g : Int → Int → Int}
    (rule : ∀ (i j : Int) (t u : Tok) (s : Shared) (Q : Value → Shared → Prop) (E : Value → Shared → Prop), Q (.int (g i j) s.toks) { s with toks := s.toks + 1 } → wpAny (model X.prog X.w) X.A (f (.int i t) (.int j u)) Q E s) :
    OpR X f (rI0 fun i j => .int (g i j)) := by
  intro pins s σ H x y v u Q I rx ry h
  obtain ⟨i, j, rfl, rfl, q⟩ := h
  obtain ⟨t, rfl⟩ := rx
  obtain ⟨t', rfl⟩ := ry
  exact rule i j t t' s _ _ ⟨.int (g i j), H, I.tok _, ⟨_, rfl⟩, q⟩
theorem opB0 {f : Value → Value → Sem Value} {g : Int → Int → Bool}
    (rule : ∀ (i j : Int) (t u : Tok) (s : Shared) (Q : Value → Shared → Prop) (E : Value → Shared → Prop), Q (.bool (g i j)) s → wpAny (model X.prog X.w) X.A (f (.int i t) (.int j u)) Q E s) :
    OpR X f (rI0 fun i j => .bl (g i j)) := by
  intro pins s σ H x y v u Q I rx ry h
  obtain ⟨i, j, rfl, rfl, q⟩ := h
  obtain ⟨t, rfl⟩ := rx
  obtain ⟨t', rfl⟩ := ry
  exact rule i j t t' s _ _ ⟨.bl (g i j), H, I, rfl, q⟩

def CDiv (i j : Int) : Prop := 0 < j ∧ j < 1073741824
def CDivN (i j : Int) : Prop := j ≠ 0 ∧ j.natAbs < 1073741824
def CPow (i j : Int) : Prop := 0 ≤ j ∧ j ≤ 1000000 ∧ i.natAbs < 2 ^ 64
def CMul (i j : Int) : Prop := (-(2 ^ 64) < i ∧ i < 2 ^ 64) ∨ (-(2 ^ 64) < j ∧ j < 2 ^ 64)
theorem CMul.ok {i j : Int} (h : CMul i j) : IntMulOk i j := by
  rcases h with ⟨h1, h2⟩ | ⟨h1, h2⟩
  · exact .of_left (intBits_le_64 h1 h2)
  · exact .of_right (intBits_le_64 h1 h2)

theorem op_add : OpR X (binaryOp .Add) (rI0 fun i j => .int (i + j)) := opI0 fun _ _ _ _ _ _ _ q => add_int q
theorem op_sub : OpR X (binaryOp .Sub) (rI0 fun i j => .int (i - j)) := opI0 fun _ _ _ _ _ _ _ q => sub_int q
theorem op_mul : OpR X (binaryOp .Mult) (rI CMul fun i j => .int (i * j)) := opI fun _ _ _ _ _ _ _ hc q => mul_int q hc.ok
/-- // by a positive divisor -/
theorem op_fdiv : OpR X (binaryOp .FloorDiv) (rI CDiv fun i j => .int (i / j)) := opI fun i j _ _ _ _ _ hc q => by
  have h1 : (0 : Int) < j := hc.1
  have h2 : j < 1073741824 := hc.2
  exact floordiv_int (by omega) (by rw [Int.fdiv_eq_ediv_of_nonneg i (by omega)]; exact q) (.inl (PyProof.noPylong_small (by omega)))
/-- % by a positive divisor of any size -/
theorem op_mod : OpR X (binaryOp .Mod) (rI (fun _ j => 0 < j) fun i j => .int (i % j)) := opI fun i j _ _ _ _ _ hc q => by
  have h1 : (0 : Int) < j := hc
  exact mod_int' (by omega) (by rw [Int.fmod_eq_emod_of_nonneg i (by omega)]; exact q)
theorem op_pow : OpR X (binaryOp .Pow) (rI CPow fun i j => .int (i ^ j.toNat)) := opI fun _ _ _ _ _ _ _ hc q => pow_int_small hc.1 hc.2.1 hc.2.2 q


theorem unI {f : Value → Sem Value} {g : Int → Int}
    (rule : ∀ (i : Int) (t : Tok) (s : Shared) (Q : Value → Shared → Prop) (E : Value → Shared → Prop), Q (.int (g i) s.toks) { s with toks := s.toks + 1 } → wpAny (model X.prog X.w) X.A (f (.int i t)) Q E s) :
    UnR X f (rU fun i => .int (g i)) := by
  intro pins s σ H x v Q I rx h
  obtain ⟨i, rfl, q⟩ := h
  obtain ⟨t, rfl⟩ := rx
  exact rule i t s _ _ ⟨.int (g i), H, I.tok _, ⟨_, rfl⟩, q⟩
theorem un_neg : UnR X (unaryOp .USub) (rU fun i => .int (-i)) := unI fun _ _ _ _ _ q => neg_int q

/-! ### bools among ints: n += (a < b) -/
end

/-! ### comparisons -/
/-- the scalars that == tells apart as data does -/
def scal : V → V → Bool
  | .non, .non => true | .non, .int _ => true | .int _, .non => true | .non, .bl _ => true | .bl _, .non => true | .non, .str _ => true | .str _, .non => true
  | .int _, .int _ => true | .bl _, .bl _ => true | .str _, .str _ => true | .byt _, .byt _ => true
  | .int _, .str _ => true | .str _, .int _ => true | .bl _, .str _ => true | .str _, .bl _ => true
  | _, _ => false
def rEq : R2 := fun x y H Q => scal x y = true ∧ Q (.bl (decide (x = y))) H
def rNe : R2 := fun x y H Q => scal x y = true ∧ Q (.bl (!decide (x = y))) H

theorem dec_int {i j : Int} : decide (V.int i = V.int j) = (i == j) := by
  rw [Bool.eq_iff_iff]
  simp
theorem dec_bl {i j : Bool} : decide (V.bl i = V.bl j) = (i == j) := by
  rw [Bool.eq_iff_iff]
  simp
theorem dec_str {i j : Str} : decide (V.str i = V.str j) = (i == j) := by
  rw [Bool.eq_iff_iff]
  simp
theorem dec_byt {i j : Array UInt8} : decide (V.byt i = V.byt j) = (i.toList == j.toList) := by
  rw [Bool.eq_iff_iff]
  cases i
  cases j
  simp

section
variable {X : Cx} {a b c : Expr} {ta tb tc : TE} {pos : Pos}
theorem fin_bl {pins : List (Addr × Obj)} {σ : St} {H : Hp} {s : Shared} {Q : VK} {k k' : Bool} (I : Inv X pins σ H s) (q : Q (.bl k) H) (e : k = k') : EP X pins σ Q (.bool k') s := by
  subst e
  exact ⟨.bl k, H, I, rfl, q⟩
theorem op_eq : OpR X (compareOp .Eq) rEq := by
  intro pins s σ H x y v u Q I rx ry h
  obtain ⟨hs, q⟩ := h
  cases x with
  | non =>
    cases rx
    cases y with
    | non => cases ry; exact PySem.EqNone.eq_none_none (fin_bl I q (by simp))
    | bl j => cases ry; exact PySem.EqNone.eq_none_bool (fin_bl I q (by simp))
    | int j => obtain ⟨t', rfl⟩ := ry; exact PySem.EqNone.eq_none_int (fin_bl I q (by simp))
    | str j => obtain ⟨t', rfl⟩ := ry; exact PySem.EqNone.eq_none_str (fin_bl I q (by simp))
    | _ => exact absurd (show false = true from hs) Bool.false_ne_true
  | bl i =>
    cases rx
    cases y with
    | non => cases ry; exact PySem.EqNone.eq_bool_none (fin_bl I q (by simp))
    | bl j => cases ry; exact eq_bool (fin_bl I q dec_bl)
    | str j => obtain ⟨t', rfl⟩ := ry; exact PySem.EqMixed.eq_bool_str (fin_bl I q (by simp))
    | _ => exact absurd (show false = true from hs) Bool.false_ne_true
  | int i =>
    obtain ⟨t, rfl⟩ := rx
    cases y with
    | non => cases ry; exact PySem.EqNone.eq_int_none (fin_bl I q (by simp))
    | int j => obtain ⟨t', rfl⟩ := ry; exact eq_int (fin_bl I q dec_int)
    | str j => obtain ⟨t', rfl⟩ := ry; exact PySem.EqMixed.eq_int_str (fin_bl I q (by simp))
    | _ => exact absurd (show false = true from hs) Bool.false_ne_true
  | str i =>
    obtain ⟨t, rfl⟩ := rx
    cases y with
    | non => cases ry; exact PySem.EqNone.eq_str_none (fin_bl I q (by simp))
    | bl j => cases ry; exact PySem.EqMixed.eq_str_bool (fin_bl I q (by simp))
    | int j => obtain ⟨t', rfl⟩ := ry; exact PySem.EqMixed.eq_str_int (fin_bl I q (by simp))
    | str j => obtain ⟨t', rfl⟩ := ry; exact eq_str (fin_bl I q dec_str)
    | _ => exact absurd (show false = true from hs) Bool.false_ne_true
  | byt i =>
    obtain ⟨t, rfl⟩ := rx
    cases y with
    | byt j => obtain ⟨t', rfl⟩ := ry; exact PySem.W.eq_bytes (fin_bl I q dec_byt)
    | _ => exact absurd (show false = true from hs) Bool.false_ne_true
  | _ => cases y <;> exact absurd (show false = true from hs) Bool.false_ne_true
theorem op_ne : OpR X (compareOp .NotEq) rNe := by
  intro pins s σ H x y v u Q I rx ry h
  obtain ⟨hs, q⟩ := h
  cases x with
  | non =>
    cases rx
    cases y with
    | non => cases ry; exact PySem.EqNone.ne_none_none (fin_bl I q (by simp))
    | bl j => cases ry; exact PySem.EqNone.ne_none_bool (fin_bl I q (by simp))
    | int j => obtain ⟨t', rfl⟩ := ry; exact PySem.EqNone.ne_none_int (fin_bl I q (by simp))
    | str j => obtain ⟨t', rfl⟩ := ry; exact PySem.EqNone.ne_none_str (fin_bl I q (by simp))
    | _ => exact absurd (show false = true from hs) Bool.false_ne_true
  | bl i =>
    cases rx
    cases y with
    | non => cases ry; exact PySem.EqNone.ne_bool_none (fin_bl I q (by simp))
    | bl j => cases ry; exact ne_bool (fin_bl I q (congrArg not dec_bl))
    | str j => obtain ⟨t', rfl⟩ := ry; exact PySem.EqMixed.ne_bool_str (fin_bl I q (by simp))
    | _ => exact absurd (show false = true from hs) Bool.false_ne_true
  | int i =>
    obtain ⟨t, rfl⟩ := rx
    cases y with
    | non => cases ry; exact PySem.EqNone.ne_int_none (fin_bl I q (by simp))
    | int j => obtain ⟨t', rfl⟩ := ry; exact ne_int (fin_bl I q (congrArg not dec_int))
    | str j => obtain ⟨t', rfl⟩ := ry; exact PySem.EqMixed.ne_int_str (fin_bl I q (by simp))
    | _ => exact absurd (show false = true from hs) Bool.false_ne_true
  | str i =>
    obtain ⟨t, rfl⟩ := rx
    cases y with
    | non => cases ry; exact PySem.EqNone.ne_str_none (fin_bl I q (by simp))
    | bl j => cases ry; exact PySem.EqMixed.ne_str_bool (fin_bl I q (by simp))
    | int j => obtain ⟨t', rfl⟩ := ry; exact PySem.EqMixed.ne_str_int (fin_bl I q (by simp))
    | str j => obtain ⟨t', rfl⟩ := ry; exact ne_str (fin_bl I q (congrArg not dec_str))
    | _ => exact absurd (show false = true from hs) Bool.false_ne_true
  | byt i =>
    obtain ⟨t, rfl⟩ := rx
    cases y with
    | byt j => obtain ⟨t', rfl⟩ := ry; exact PySem.W.ne_bytes (fin_bl I q (congrArg not dec_byt))
    | _ => exact absurd (show false = true from hs) Bool.false_ne_true
  | _ => cases y <;> exact absurd (show false = true from hs) Bool.false_ne_true

theorem op_lt : OpR X (compareOp .Lt) (rI0 fun i j => .bl (decide (i < j))) := opB0 fun _ _ _ _ _ _ _ q => lt_int q
theorem op_le : OpR X (compareOp .LtE) (rI0 fun i j => .bl (decide (i ≤ j))) := opB0 fun _ _ _ _ _ _ _ q => le_int q
theorem op_gt : OpR X (compareOp .Gt) (rI0 fun i j => .bl (decide (j < i))) := opB0 fun _ _ _ _ _ _ _ q => gt_int q
theorem op_ge : OpR X (compareOp .GtE) (rI0 fun i j => .bl (decide (j ≤ i))) := opB0 fun _ _ _ _ _ _ _ q => ge_int q

/-- is None, is not None: the right side a value none -/
theorem op_isN : OpR X (compareOp .Is) (fun x y H Q => y = .non ∧ Q (.bl (decide (x = .non))) H) := by
  intro pins s σ H x y v u Q I rx ry h
  obtain ⟨rfl, q⟩ := h
  cases ry
  refine is_none_gen (fin_bl I q ?_)
  cases x <;> first
    | (cases rx; rfl)
    | (obtain ⟨t, rfl⟩ := rx; rfl)

/-- is, is not of two objects that are tracked lists or instances -/
def isObj : HO → Bool
  | .lst _ => true
  | .ins _ _ _ => true
  | _ => false

/-- two rules for one operation: by cases -/
theorem OpR.or {f : Value → Value → Sem Value} {r r' : R2} (h : OpR X f r) (h' : OpR X f r') : OpR X f (fun x y H Q => r x y H Q ∨ r' x y H Q) := by
  intro pins s σ H x y v u Q I rx ry q
  rcases q with q | q
  · exact h pins s σ H x y v u Q I rx ry q
  · exact h' pins s σ H x y v u Q I rx ry q

theorem nomark (b : Expr) {op : CmpOp} (h : op ≠ .In := by decide) (h2 : op ≠ .NotIn := by decide) : behindInMarks op b = false := by
  have e1 : (op == CmpOp.In) = false := by cases op <;> first | rfl | exact absurd rfl h
  have e2 : (op == CmpOp.NotIn) = false := by cases op <;> first | rfl | exact absurd rfl h2
  cases b <;> simp [behindInMarks, e1, e2]
/-- a comparison as a value; hm: nomark b, or (for in, not in) by with_unfolding_all rfl -/
theorem pe_cmpR {op : CmpOp} {r : R2} (ho : OpR X (compareOp op) r) (ha : PE X a ta) (hb : PE X b tb) (hm : behindInMarks op b = false) : PE X (.Compare a [op] [b] pos) (tOp r ta tb) := by
  intro pins s σ H Q I h
  exact wpAny_Compare1 (binT ha hb I h fun v u s2 x y H2 I2 rx ry q => ho pins s2 σ H2 x y v u Q I2 rx ry q) hm
/-- a reading of a value as a test -/
def tTest (t : TE) : TT := fun σ H Q => t σ H fun x H' => ∃ k, x = .bl k ∧ Q k H'
theorem pt_cmpR {op : CmpOp} {r : R2} (ho : OpR X (compareOp op) r) (ha : PE X a ta) (hb : PE X b tb) (hm : behindInMarks op b = false) : PT X (.Compare a [op] [b] pos) (tTest (tOp r ta tb)) := by
  intro pins s σ H Q I h
  refine wpAny_isTrue_Compare1 (thn (ha pins s σ H _ I h) fun v s1 ⟨x, H1, I1, r1, q1⟩ => thn (hb pins s1 σ H1 _ I1 q1) fun u s2 ⟨y, H2, I2, r2, q2⟩ =>
    thn (ho pins s2 σ H2 x y v u _ I2 r1 r2 q2) fun c s3 ⟨z, H3, I3, r3, k, e, q3⟩ => ?_) hm
  subst e
  cases r3
  exact wpAny_truthy_bool ⟨H3, I3, q3⟩
/-- a op1 b op2 c -/
def tChain (r r' : R2) (ta tb tc : TE) : TE := fun σ H Q => ta σ H fun x H1 => tb σ H1 fun y H2 => r x y H2 fun z H3 => ∃ k, z = .bl k ∧
  (if k = true then tc σ H3 fun w' H4 => r' y w' H4 Q else Q (.bl false) H3)

/-! ### truth -/
/-- a value's truth by the abstract heap -/
def TruV (K : PySem.W.Frag) (x : V) (H : Hp) (k : Bool) : Prop :=
  match x with
  | .non => k = false
  | .bl b => k = b
  | .int i => k = (i != 0)
  | .str y => y.length ≤ sizeLine ∧ k = ((y.length : Int) != 0)
  | .byt y => y.size ≤ sizeLine ∧ k = ((y.size : Int) != 0)
  | .ref p => (∃ xs, SqL K H p xs ∧ k = !xs.isEmpty) ∨ (∃ xs, SqT K H p xs ∧ k = !xs.isEmpty) ∨ ∃ kvs, H p = some (.dK kvs) ∧ k = !kvs.isEmpty
  | _ => False
theorem isEmpty_kv {κ : Type} {kvs : List (κ × V)} {vs : List (κ × Value)} (r : KV kvs vs) : (!vs.isEmpty) = !kvs.isEmpty := by
  cases r <;> rfl
theorem isEmpty_of {xs : List V} {its : List Value} (r : Vals xs its) : (!its.toArray.isEmpty) = !xs.isEmpty := by
  cases r <;> simp
theorem line63 : (sizeLine : Nat) < 2 ^ 63 := by rw [sizeLine_eq]; decide
theorem tru_ok : TruR X (fun x H Q => ∃ k, TruV X.K x H k ∧ Q k H) := by
  intro pins s σ H x v Q I rx h
  obtain ⟨k, e, q⟩ := h
  have hl := line63
  have hs : sizeLine = 16777216 := sizeLine_eq
  cases x with
  | non =>
    cases rx
    have e' : k = false := e
    subst e'
    exact truthy_none ⟨H, I, q⟩
  | bl b =>
    cases rx
    have e' : k = b := e
    subst e'
    exact wpAny_truthy_bool ⟨H, I, q⟩
  | int i =>
    obtain ⟨t, rfl⟩ := rx
    have e' : k = (i != 0) := e
    subst e'
    exact PySem.P.truthy_int ⟨H, I, q⟩
  | str y =>
    obtain ⟨t, rfl⟩ := rx
    obtain ⟨hy, e'⟩ : y.length ≤ sizeLine ∧ k = ((y.length : Int) != 0) := e
    subst e'
    exact PySem.P.truthy_str (by omega) ⟨H, I.tok _, q⟩
  | byt y =>
    obtain ⟨t, rfl⟩ := rx
    obtain ⟨hy, e'⟩ : y.size ≤ sizeLine ∧ k = ((y.size : Int) != 0) := e
    subst e'
    exact PySem.W.truthy_bytes (by omega) ⟨H, I.tok _, q⟩
  | ref p =>
    cases rx
    have e' : (∃ xs, SqL X.K H p xs ∧ k = !xs.isEmpty) ∨ (∃ xs, SqT X.K H p xs ∧ k = !xs.isEmpty) ∨ ∃ kvs, H p = some (.dK kvs) ∧ k = !kvs.isEmpty := e
    rcases e' with ⟨xs, hx, e'⟩ | ⟨xs, hx, e'⟩ | ⟨kvs, hx, e'⟩
    · subst e'
      obtain ⟨its, r, pl, hz⟩ := I.list hx
      have hlen := r.length
      exact wpAny_truthy_list pl.isList (by simp only [List.size_toArray]; omega) ⟨H, I.tok _, by rw [isEmpty_of r]; exact q⟩
    · subst e'
      obtain ⟨its, r, pl, hz⟩ := I.tuple hx
      have hlen := r.length
      exact truthy_tuple pl (by simp only [List.size_toArray]; omega) ⟨H, I.tok _, by rw [isEmpty_of r]; exact q⟩
    · subst e'
      obtain ⟨hz, hS, vs, r, m⟩ : kvs.length ≤ sizeLine ∧ (p == sysModules) = false ∧ ∃ vs, KV kvs vs ∧ s.heap.DictOf (mixKind X.prog X.w) p vs := I.hok p _ hx
      have hlen : kvs.length = vs.length := Paired.length r
      exact wpAny_truthy_dict hS m (by omega) ⟨H, I.tok _, by rw [isEmpty_kv r]; exact q⟩
  | _ => exact (show False from e).elim
/-- any expression whose test is its value's truth (a name, a call, a subscript, a field ..: he by fun _ => rfl) -/
theorem pt_truth (ha : PE X a ta) (he : ∀ whole, isTrue a X.env whole = (do let v ← whole; standAt a.pos; holding [v] (truthy v))) :
    PT X a (fun σ H Q => ta σ H fun x H' => ∃ k, TruV X.K x H' k ∧ Q k H') := by
  intro pins s σ H Q I h
  exact isTrue_plain (thn (ha pins s σ H _ I h) fun v s1 ⟨x, H1, I1, r1, q1⟩ => tru_ok pins s1 σ H1 x v Q I1 r1 q1) (he _)

/-! ### strs and bytes -/
theorem op_add_str : OpR X (binaryOp .Add) (fun x y H Q => ∃ i j, x = .str i ∧ y = .str j ∧ i.length + j.length ≤ sizeLine ∧ Q (.str (i ++ j)) H) := by
  intro pins s σ H x y v u Q I rx ry h
  obtain ⟨i, j, rfl, rfl, hz, q⟩ := h
  obtain ⟨t, rfl⟩ := rx
  obtain ⟨t', rfl⟩ := ry
  exact add_str (fun t' tk => ⟨.str (i ++ j), H, I.tok _, ⟨_, rfl⟩, q⟩) hz

def PlainIxT (b : Expr) : Prop := ∀ o i, subscripted b false o i = operate [o, i] (getItem o i)

/-! ### scalar builtins, by CallR -/
theorem vals1 {x : V} {us : List Value} (r : Vals [x] us) : ∃ u, us = [u] ∧ RelV x u := by
  cases r with
  | cons r1 r2 => cases r2; exact ⟨_, rfl, r1⟩
theorem vals2 {x y : V} {us : List Value} (r : Vals [x, y] us) : ∃ u w', us = [u, w'] ∧ RelV x u ∧ RelV y w' := by
  cases r with
  | cons r1 r2 =>
    cases r2 with
    | cons r3 r4 => cases r4; exact ⟨_, _, rfl, r1, r3⟩
theorem call_abs : CallR X (.builtin "abs") (fun xs H Q => ∃ i, xs = [.int i] ∧ Q (.int (if i < 0 then -i else i)) H) := by
  intro pins s σ H xs us Q I r h
  obtain ⟨i, rfl, q⟩ := h
  obtain ⟨u, rfl, t, rfl⟩ := vals1 r
  exact call_abs_int fun u tk => ⟨.int (if i < 0 then -i else i), H, I.tok _, ⟨_, rfl⟩, q⟩
theorem call_max2 (hc : X.calm = true) : CallR X (.builtin "max") (fun xs H Q => ∃ i j, xs = [.int i, .int j] ∧ Q (.int (if j > i then j else i)) H) := by
  intro pins s σ H xs us Q I r h
  obtain ⟨i, j, rfl, q⟩ := h
  obtain ⟨u, w', rfl, ⟨t, rfl⟩, ⟨t', rfl⟩⟩ := vals2 r
  refine max_two_ints (I.ok.hd hc) fun h' tk k => ⟨_, H, I.kept k, ?_, q⟩
  by_cases hj : j > i
  · rw [if_pos hj, if_pos hj]; exact ⟨_, rfl⟩
  · rw [if_neg hj, if_neg hj]; exact ⟨_, rfl⟩
theorem call_min2 (hc : X.calm = true) : CallR X (.builtin "min") (fun xs H Q => ∃ i j, xs = [.int i, .int j] ∧ Q (.int (if j < i then j else i)) H) := by
  intro pins s σ H xs us Q I r h
  obtain ⟨i, j, rfl, q⟩ := h
  obtain ⟨u, w', rfl, ⟨t, rfl⟩, ⟨t', rfl⟩⟩ := vals2 r
  refine min_two_ints (I.ok.hd hc) fun h' tk k => ⟨_, H, I.kept k, ?_, q⟩
  by_cases hj : j < i
  · rw [if_pos hj, if_pos hj]; exact ⟨_, rfl⟩
  · rw [if_neg hj, if_neg hj]; exact ⟨_, rfl⟩
theorem call_int1 : CallR X (.type "int") (fun xs H Q => (∃ i, xs = [.int i] ∧ Q (.int i) H) ∨ ∃ k, xs = [.bl k] ∧ Q (.int (if k then 1 else 0)) H) := by
  intro pins s σ H xs us Q I r h
  rcases h with ⟨i, rfl, q⟩ | ⟨k, rfl, q⟩
  · obtain ⟨u, rfl, t, rfl⟩ := vals1 r
    exact call_int_int ⟨.int i, H, I, ⟨_, rfl⟩, q⟩
  · obtain ⟨u, rfl, r1⟩ := vals1 r
    cases r1
    exact call_int_bool ⟨.int (if k then 1 else 0), H, I.tok _, ⟨_, rfl⟩, q⟩
/-- len of a str, a bytes, a list, a tuple -/
def LenV (K : PySem.W.Frag) (x : V) (H : Hp) (n : Nat) : Prop :=
  match x with
  | .str y => y.length ≤ sizeLine ∧ n = y.length
  | .byt y => y.size ≤ sizeLine ∧ n = y.size
  | .ref p => (∃ xs, SqL K H p xs ∧ n = xs.length) ∨ ∃ xs, SqT K H p xs ∧ n = xs.length
  | _ => False
end
end L2

namespace L2
open PySem PySem.Spec PyProof.Rows

/-! ### an instance, its attributes a map -/
structure ObjM (h : Heap) (x dx C : Addr) (mA : Str → Option Value) : Prop where
  obj : h.get? x = some (PySem.W.instObj C dx)
  ns : h.Ns1 dx mA
  ne : dx ≠ x



section
variable {prog : Program} {w : World} {A : Around} {E : Value → Shared → Prop} {s : Shared} {K : PySem.W.Frag} {x dx C f : Addr} {mA : Str → Option Value} {name : Str} {v : Value}





end

/-! ### the attributes as a list of pairs -/
def putF (f : Str) (v : V) : List (Str × V) → List (Str × V)
  | [] => [(f, v)]
  | (g, x) :: r => if g = f then (g, v) :: r else (g, x) :: putF f v r
theorem lookup_putF (f g : Str) (v : V) : ∀ fs : List (Str × V), (putF f v fs).lookup g = if g = f then some v else fs.lookup g
  | [] => by
    show List.lookup g [(f, v)] = _
    by_cases h : g = f
    · have hb : (g == f) = true := beq_iff_eq.mpr h
      simp only [List.lookup, hb, if_pos h]
    · have hb : (g == f) = false := beq_eq_false_iff_ne.mpr h
      simp only [List.lookup, hb, if_neg h]
  | (k, x) :: r => by
    have ih := lookup_putF f g v r
    rw [show putF f v ((k, x) :: r) = (if k = f then (k, v) :: r else (k, x) :: putF f v r) from rfl]
    by_cases hk : k = f
    · rw [if_pos hk]
      by_cases h : g = k
      · have hb : (g == k) = true := beq_iff_eq.mpr h
        simp only [List.lookup, hb, if_pos (h.trans hk)]
      · have hb : (g == k) = false := beq_eq_false_iff_ne.mpr h
        simp only [List.lookup, hb, if_neg (fun e : g = f => h (e.trans hk.symm))]
    · rw [if_neg hk]
      by_cases h : g = k
      · have hb : (g == k) = true := beq_iff_eq.mpr h
        simp only [List.lookup, hb, if_neg (fun e : g = f => hk (h.symm.trans e))]
      · have hb : (g == k) = false := beq_eq_false_iff_ne.mpr h
        simp only [List.lookup, hb]
        exact ih

theorem RelO.some_of {v : V} {o : Option Value} (r : RelO (some v) o) : ∃ u, o = some u ∧ RelV v u := by
  cases o with
  | none => exact (show False from r).elim
  | some u => exact ⟨u, rfl, r⟩
theorem handed_of {v : V} {u : Value} (r : RelV v u) : PySem.W.handedIn u = true := by
  cases v with
  | non => cases (show u = Value.none from r); rfl
  | bl b => cases (show u = Value.bool b from r); rfl
  | int i => obtain ⟨t, e⟩ := (show ∃ t, u = Value.int i t from r); cases e; rfl
  | str x => obtain ⟨t, e⟩ := (show ∃ t, u = Value.str x t from r); cases e; rfl
  | byt b => obtain ⟨t, e⟩ := (show ∃ t, u = Value.bytes b t from r); cases e; rfl
  | flt b => obtain ⟨t, e⟩ := (show ∃ t, u = Value.float b t from r); cases e; rfl
  | ref a => cases (show u = Value.ref a from r); rfl
  | ty n => cases (show u = Value.type n from r); rfl

section
variable {P : Program} {w : World} {H H' : Hp} {h h' : Heap} {a C dx : Addr} {fs fs' : List (Str × V)}
end

/-! ### what of the text a class must have -/
structure Cls (K : PySem.W.Frag) (C : Addr) : Prop where
  pg : PySem.W.plainGet K C Str.empty = true
  hd : PySem.W.hasDictIn K C = true
  po : PySem.W.plainOver K C = true
  sa : PySem.W.findIn K (.ref C) "__setattr__" = some (some (.builtin "object.__setattr__"))
/-- no class of it has the name -/
def NoAttr (K : PySem.W.Frag) (C : Addr) (f : Str) : Prop := PySem.W.findIn K (.ref C) f = some none
/-- a constant of the class -/
structure Con (K : PySem.W.Frag) (C : Addr) (f : Str) (v : V) (u : Value) : Prop where
  at_ : PySem.W.findIn K (.ref C) f = some (some u)
  rel : RelV v u
  get : PySem.W.specialIn K u "__get__" = some none
  cp : PySem.W.copiedNames.contains f = false
/-- a method: a plain def of the class or of one above it -/
structure Meth (K : PySem.W.Frag) (C : Addr) (m : Str) (f : Addr) : Prop where
  at_ : PySem.W.findIn K (.ref C) m = some (some (.ref f))
  fn : PySem.W.isFn K (.ref f) = true
  kp : PySem.W.keepIn K (.ref f) = true

section
variable {X : Cx} {pins : List (Addr × Obj)} {σ : St} {H : Hp} {s : Shared} {a C dx : Addr} {fs : List (Str × V)} {f : Str} {v : V} {A : Around} {E : Value → Shared → Prop}






/-- e.f where nothing but the object is asked: through attributeBase (super) and the last hold -/
theorem attr_of {prog : Program} {w : World} {env : Env} {e : Expr} {f : Str} {pos : Pos} {s : Shared} {Q : Value → Shared → Prop} (hb : attributeBase e f env (eval e env) = eval e env)
    (h : wpAny (model prog w) A (eval e env) (fun o s₁ => wpAny (model prog w) A (getAttr o f true) Q E s₁) E s) : wpAny (model prog w) A (eval (.Attribute e f pos) env) Q E s :=
  Attribute_any_ h (by rw [arm_eval_Attribute, hb])
end

/-! ### readings and rules -/
/-- e.f, an attribute of the instance -/
def tFld (K : PySem.W.Frag) (ta : TE) (f : Str) : TE := fun σ H Q => ta σ H fun x H1 => ∃ a C dx fs v, x = .ref a ∧ H1 a = some (.ins C dx fs) ∧ Cls K C ∧ NoAttr K C f ∧ fs.lookup f = some v ∧ Q v H1
/-- e.f, a constant of the class -/
def tCon (K : PySem.W.Frag) (ta : TE) (f : Str) : TE := fun σ H Q => ta σ H fun x H1 => ∃ a C dx fs v u, x = .ref a ∧ H1 a = some (.ins C dx fs) ∧ Cls K C ∧ Con K C f v u ∧ fs.lookup f = none ∧ Q v H1
/-- e.f = value -/
def sFld (K : PySem.W.Frag) (ta tv : TE) (f : Str) : TS := fun D σ H => tv σ H fun y H1 => ta σ H1 fun x H2 => ∃ a C dx fs, x = .ref a ∧ H2 a = some (.ins C dx fs) ∧ Cls K C ∧ NoAttr K C f ∧ fs.length < 1000 ∧
  D.nx σ (upd H2 a (.ins C dx (putF f y fs)))
/-- an augmented operator on two values -/
def InOp (X : Cx) (op : Operator) (rd : V → V → Hp → VK → Prop) : Prop :=
  ∀ (pins : List (Addr × Obj)) (s : Shared) (σ : St) (H : Hp) (x y : V) (u v : Value) (Q : VK), Inv X pins σ H s → RelV x u → RelV y v → rd x y H Q → wpAny (model X.prog X.w) X.A (inplaceOp op u v) (EP X pins σ Q) X.xe s
/-- e.f op= value -/
def sFldAug (K : PySem.W.Frag) (ta tv : TE) (rd : V → V → Hp → VK → Prop) (f : Str) : TS := fun D σ H => ta σ H fun x H1 => ∃ a C dx fs v, x = .ref a ∧ H1 a = some (.ins C dx fs) ∧ Cls K C ∧ NoAttr K C f ∧ fs.lookup f = some v ∧
  tv σ H1 fun y H2 => rd v y H2 fun z H3 => ∃ dx' fs', H3 a = some (.ins C dx' fs') ∧ fs'.length < 1000 ∧ D.nx σ (upd H3 a (.ins C dx' (putF f z fs')))

section
variable {X : Cx} {o e value : Expr} {f : Str} {pos pos' tpos : Pos} {ta tv : TE}
def rAdd : V → V → Hp → VK → Prop := fun x y H Q => ∃ i j, x = .int i ∧ y = .int j ∧ Q (.int (i + j)) H
def rSub : V → V → Hp → VK → Prop := fun x y H Q => ∃ i j, x = .int i ∧ y = .int j ∧ Q (.int (i - j)) H

end

/-! ### isinstance -/
section
variable {X : Cx} {pins : List (Addr × Obj)} {σ : St} {H : Hp} {s : Shared} {A : Around} {E : Value → Shared → Prop} {Q : Value → Shared → Prop} {c : Value} {b : Bool}
/-- the type of a value, as the fragment's deciders take it; for an instance its class -/
inductive TyOf (K : PySem.W.Frag) (H : Hp) : V → Value → Prop where
  | non : TyOf K H .non (.type "NoneType")
  | bl (x : Bool) : TyOf K H (.bl x) (.type "bool")
  | int (i : Int) : TyOf K H (.int i) (.type "int")
  | str (x : Str) : TyOf K H (.str x) (.type "str")
  | flt (x : UInt64) : TyOf K H (.flt x) (.type "float")
  | lst {a : Addr} {xs : List V} (e : H a = some (.lst xs)) : TyOf K H (.ref a) (.type "list")
  | frz {a : Addr} {o : Obj} {xs : List V} (e : H a = some (.frz o (.lst xs))) : TyOf K H (.ref a) (.type "list")
  | tup {a : Addr} {xs : List V} (e : H a = some (.tup xs)) : TyOf K H (.ref a) (.type "tuple")
  | dK {a : Addr} {kvs : List (Key × V)} (e : H a = some (.dK kvs)) : TyOf K H (.ref a) (.type "dict")
  | dT {a : Addr} {kvs : List (List Key × V)} (e : H a = some (.dT kvs)) : TyOf K H (.ref a) (.type "dict")
  | ins {a C dx : Addr} {fs : List (Str × V)} (e : H a = some (.ins C dx fs)) (cl : Cls K C) (ha : PySem.W.findIn K (.ref C) "__class__" = some (some (.builtin "object.__class__")))
      (hn : PySem.W.specialIn K (.builtin "object.__class__") "__get__" = some (some (.builtin "getset_descriptor.__get__"))) (htk : PySem.W.takesIn K (.builtin "object.__class__") = some true)
      (hm : PySem.W.mroIn K C (.type "object") = some true) : TyOf K H (.ref a) (.ref C)
end
end L2

namespace L2
open PySem PySem.Spec PyProof.Rows

/-! ### room -/
structure Room (k : Nat) (A : Around) : Prop where
  hd : A.handled = none
  dp : A.depth + 3 * k + 5 < recursionLimit
  un : A.units + 16 * k + 200 < cLine
theorem Room.mono {j k : Nat} {A : Around} (r : Room k A) (h : j ≤ k) : Room j A := ⟨r.hd, by have := r.dp; omega, by have := r.un; omega⟩
theorem Room.deeper {k : Nat} {A : Around} (r : Room (k + 1) A) (env : Env) : Room k (A.deeper env) :=
  ⟨r.hd, by have := r.dp; show A.depth + 1 + 3 * k + 5 < _; omega, by have := r.un; show A.units + 3 + 16 * k + 200 < _; omega⟩
theorem make_depth {A : Around} {C : Addr} {us : List Value} {kw : List (Str × Value)} : (A.under (.builtin "type.__call__" ⟨.ref C :: us, kw⟩)).depth = A.depth + 1 := by
  first | rfl | simp [Around.under, Code.weight, Code.isCreation, Code.isGuard, Code.isCaller, Code.frames, Code.isFrame, guardIds]
theorem make_units {A : Around} {C : Addr} {us : List Value} {kw : List (Str × Value)} : (A.under (.builtin "type.__call__" ⟨.ref C :: us, kw⟩)).units = A.units + 1 := by
  first | rfl | simp [Around.under, Code.cUnits, Code.frames, Code.isFrame]
theorem Room.make {k : Nat} {A : Around} (r : Room (k + 1) A) (C : Addr) (us : List Value) (kw : List (Str × Value)) : Room k (A.under (.builtin "type.__call__" ⟨.ref C :: us, kw⟩)) :=
  ⟨r.hd, by have := r.dp; rw [make_depth]; omega, by have := r.un; rw [make_units]; omega⟩
theorem Room.depth {k : Nat} {A : Around} (r : Room k A) : A.depth < recursionLimit := by have := r.dp; omega
theorem Room.units {k : Nat} {A : Around} (r : Room k A) : A.units + 64 < cLine := by have := r.un; omega

/-! ### argument lists and displays -/
def tNil : TA := fun _ H Q => Q [] H
def tCons (ta : TE) (tr : TA) : TA := fun σ H Q => ta σ H fun x H1 => tr σ H1 fun xs H2 => Q (x :: xs) H2
section
variable {X : Cx} {e : Expr} {es : List Expr} {te : TE} {t : TA} {pos : Pos}
theorem pa_nil : PA X [] tNil := fun _ _ _ _ H Q I h => Calls.spliced_nil ⟨[], H, I, .nil, h⟩
theorem pa_cons (ha : PE X e te) (hr : PA X es t) (hs : starEach (e :: es) X.env = (false, eval e X.env) :: starEach es X.env := by rfl) : PA X (e :: es) (tCons te t) := by
  intro pos pins s σ H Q I h
  rw [hs]
  show wpAny _ _ (spliced ((false, eval e X.env) :: backTo pos (starEach es X.env))) _ _ s
  refine Calls.spliced_cons (thn (ha pins s σ H _ I h) fun u s1 ⟨x, H1, I1, r1, q1⟩ => ?_)
  exact thn (hr pos pins s1 σ H1 _ I1 q1) fun us s2 ⟨xs, H2, I2, r2, q2⟩ => ⟨x :: xs, H2, I2, .cons r1 r2, q2⟩

/-- a tuple, a list of written items -/
def tTup (t : TA) : TE := fun σ H Q => t σ H fun xs H1 => xs.length ≤ sizeLine ∧ ∀ p, H1 p = none → Q (.ref p) (upd H1 p (.tup xs))
def tLst (t : TA) : TE := fun σ H Q => t σ H fun xs H1 => xs.length ≤ sizeLine ∧ ∀ p, H1 p = none → Q (.ref p) (upd H1 p (.lst xs))
theorem pe_tup {x1} (h : PA X es t) : PE X (.Tuple es x1 pos) (tTup t) := by
  intro pins s σ H Q I hq
  refine wpAny_Tuple_spliced (thn (h pos pins s σ H _ I hq) fun us s1 ⟨xs, H1, I1, r, z, q⟩ => ⟨by rw [← r.length]; exact z, ?_⟩)
  have hf : H1 s1.heap.objs.size = none := I1.hok.fresh (Nat.le_refl _)
  refine ⟨.ref s1.heap.objs.size, upd H1 s1.heap.objs.size (.tup xs), I1.laid (t' := s1.toks) (fun b u e => Heap.get?_push_of_some _ e) (Nat.le_refl _) ?_, rfl, q _ hf⟩
  exact ⟨z, us, r, ⟨_, Heap.get?_push_size _ rfl, rfl, _, rfl⟩⟩
theorem pe_lst (h : PA X es t) : PE X (.List es pos) (tLst t) := by
  intro pins s σ H Q I hq
  refine wpAny_List_spliced (thn (h pos pins s σ H _ I hq) fun us s1 ⟨xs, H1, I1, r, z, q⟩ => ⟨by rw [← r.length]; exact z, ?_⟩)
  have hf : H1 s1.heap.objs.size = none := I1.hok.fresh (Nat.le_refl _)
  refine ⟨.ref s1.heap.objs.size, upd H1 s1.heap.objs.size (.lst xs), I1.laid (t' := s1.toks) (fun b u e => Heap.get?_push_of_some _ e) (Nat.le_refl _) ?_, rfl, q _ hf⟩
  exact ⟨z, us, 0, r, Heap.get?_push_size _ rfl⟩
end

/-! ### what a def promises -/
/-- a def's promise: the bound arguments in the parameters' order, the heap, the wanted end, the wanted exception -/
abbrev Sp := List V → Hp → VK → XK → Prop
/-- how an exception lies behind a call (file 08 gives it): the callers' frames, abstract heap and state ahead of the call, the wish, the exception, the state -/
abbrev CXT := List Env → Hp → Shared → XK → Value → Shared → Prop

/-- the state at a call -/
structure Env0 (P : Program) (w : World) (K : PySem.W.Frag) (mg : Str → Option Value) (base : Heap) (A : Around) (outer : List Env) (s : Shared) (H : Hp) : Prop where
  frames : A.frames = some outer
  mod : Mod K mg base
  bs : ∀ b o, base.get? b = some o → s.heap.get? b = some o ∧ H b = none
  bsz : base.objs.size ≤ s.heap.objs.size
  funs : s.heap.FunFrames base outer
  frf : ∀ b ∈ frs outer, H b = none
  hok : HOk P w H s.heap
  bare : AllBare s.gens
/-- a call's end -/
def CE (outer : List Env) (P : Program) (w : World) (H : Hp) (s : Shared) (Q : VK) (u : Value) (s' : Shared) : Prop :=
  ∃ v H', s'.os = s.os ∧ AllBare s'.gens ∧ Un (frs outer) [] H H' s.heap s'.heap ∧ HOk P w H' s'.heap ∧ RelV v u ∧ Q v H'
def CR (CX : CXT) (outer : List Env) (P : Program) (w : World) (H : Hp) (s : Shared) (Q : VK) (E : XK) (r : Result) (s' : Shared) : Prop :=
  match r with
  | .ok (.ret u) => CE outer P w H s Q u s'
  | .ok _ => False
  | .error e => CX outer H s E e s'
structure FnOk (P : Program) (w : World) (K : PySem.W.Frag) (mg : Str → Option Value) (base : Heap) (CX : CXT) (k : Nat) (f : Addr) (fd : FuncData) (ps : List Str) (sp : Sp) : Prop where
  len : ∀ vs H Q E, sp vs H Q E → vs.length = ps.length
  run : ∀ (A : Around) (outer : List Env) (s : Shared) (H : Hp) (args : Args) (us : List Value) (vs : List V) (Q : VK) (E : XK), Room k A → Env0 P w K mg base A outer s H → BindsTo s fd args (ps.zip us) → Vals vs us → sp vs H Q E →
    codeAny (model P w) A (.call (.ref f) args) (CR CX outer P w H s Q E) s

theorem Env0.make {P : Program} {w : World} {K : PySem.W.Frag} {mg : Str → Option Value} {base : Heap} {A : Around} {outer : List Env} {s : Shared} {H : Hp} (e : Env0 P w K mg base A outer s H) (C : Addr) (us : List Value) (kw : List (Str × Value)) :
    Env0 P w K mg base (A.under (.builtin "type.__call__" ⟨.ref C :: us, kw⟩)) outer s H := ⟨by first | exact e.frames | (simpa [Around.under, Code.envs, Code.isFrame, pushEnvs] using e.frames), e.mod, e.bs, e.bsz, e.funs, e.frf, e.hok, e.bare⟩

section
variable {X : Cx} {pins : List (Addr × Obj)} {σ : St} {H : Hp} {s s' : Shared}
/-- from a body: what a callee wants -/
theorem Inv.env0 (I : Inv X pins σ H s) : Env0 X.prog X.w X.K X.mg X.base X.A X.stack s H :=
  ⟨I.ok.frames, I.ok.mod, I.bs, Nat.le_trans I.ok.bsz I.sz, I.stack, I.stkFree, I.hok, I.bare⟩
/-- behind a call -/
theorem Inv.after {Q : VK} {u : Value} (I : Inv X pins σ H s) (h : CE X.stack X.prog X.w H s Q u s') : EP X pins σ Q u s' := by
  obtain ⟨v, H', os, bare, un, hok, r, q⟩ := h
  obtain ⟨hh, g, d, t, os'⟩ := s'
  obtain rfl : os' = s.os := os
  exact ⟨v, H', I.call (h' := hh) (g' := g) (d' := d) (t' := t) (ch := []) un hok bare (fun b z => absurd z (by simp)), r, q⟩
end

/-! ### calls -/
/-- f(..): the written arguments, then the defaults dvs; E: what is wanted of an exception -/
def tCall (sp : Sp) (dvs : List V) (E : XK) (t : TA) : TE := fun σ H Q => t σ H fun vs H1 => sp (vs ++ dvs) H1 Q E
/-- o.m(..) of an instance of the class at C -/
def tMeth (C : Addr) (m : Str) (sp : Sp) (dvs : List V) (E : XK) (ta : TE) (t : TA) : TE := fun σ H Q => ta σ H fun x H1 => ∃ a dx fs, x = .ref a ∧ H1 a = some (.ins C dx fs) ∧ fs.lookup m = none ∧
  t σ H1 fun vs H2 => sp (x :: (vs ++ dvs)) H2 Q E
/-- C(..): a new instance and its dict, then __init__ -/
def tMake (C : Addr) (sp : Sp) (dvs : List V) (E : XK) (t : TA) : TE := fun σ H Q => t σ H fun vs H1 => ∀ x dx, H1 x = none → H1 dx = none → dx ≠ x →
  sp (.ref x :: (vs ++ dvs)) (upd (upd H1 dx (.own x)) x (.ins C dx [])) (fun v H2 => v = .non ∧ Q (.ref x) H2) E

/-- how the parameters are bound: us the positional arguments, kw the keywords' values by name, ds the defaults that fill up -/
def Binds (K : PySem.W.Frag) (fd : FuncData) (ps : List Str) (ds : List Value) : Prop :=
  ∀ (s : Shared) (us : List Value), K.In s.heap → (us ++ ds).length = ps.length → BindsTo s fd ⟨us, []⟩ (ps.zip (us ++ ds))
/-- every parameter is given -/
theorem Binds.all {K : PySem.W.Frag} {fd : FuncData} {ps : List Str} (h : ∀ us : List Value, us.length = ps.length → bindArgs fd ⟨us, []⟩ = pure (ps.zip us)) : Binds K fd ps [] := fun s us _ hl => by
  rw [List.append_nil] at hl ⊢
  exact .of_eq (h us hl)

/-- an exception of a callee reaches what this body wants of exceptions -/
def Passes (CX : CXT) (X : Cx) (E : XK) : Prop := ∀ (pins : List (Addr × Obj)) (σ : St) (H : Hp) (s : Shared) (e : Value) (s' : Shared), Inv X pins σ H s → CX X.stack H s E e s' → X.xe e s'

section
variable {X : Cx} {CX : CXT} {k : Nat} {f C : Addr} {fd : FuncData} {ps : List Str} {sp : Sp} {dvs : List V} {ds : List Value} {E : XK} {x m : Str} {p pos apos : Pos} {e o : Expr} {es : List Expr} {ta : TE} {t : TA}

/-- the callee runs -/
theorem run_fn {pins : List (Addr × Obj)} {σ : St} {H : Hp} {s : Shared} {Q : VK} {us : List Value} {vs : List V} (F : FnOk X.prog X.w X.K X.mg X.base CX k f fd ps sp) (hr : Room k X.A) (hb : Binds X.K fd ps ds) (hd : Vals dvs ds) (hx : Passes CX X E)
    (I : Inv X pins σ H s) (r : Vals vs us) (h : sp (vs ++ dvs) H Q E) : wpAny (model X.prog X.w) X.A (call (.ref f) us) (EP X pins σ Q) X.xe s := by
  have r2 : Vals (vs ++ dvs) (us ++ ds) := r.append hd
  have hl : (us ++ ds).length = ps.length := by rw [← r2.length]; exact F.len _ _ _ _ h
  refine wpAny_call (codeAny_mono (F.run X.A X.stack s H ⟨us, []⟩ (us ++ ds) (vs ++ dvs) Q E hr I.env0 (hb s us I.kIn hl) r2 h) fun r s' hq => ?_)
  cases r with
  | error e => exact hx pins σ H s e s' I hq
  | ok fl =>
    cases fl with
    | ret u => exact I.after hq
    | next => exact False.elim hq
    | brk => exact False.elim hq
    | cont => exact False.elim hq

theorem pe_call (F : FnOk X.prog X.w X.K X.mg X.base CX k f fd ps sp) (hr : Room k X.A) (hg : Gl X x) (hm : X.mg x = some (.ref f)) (hk : PySem.W.keepIn X.K (.ref f) = true) (hb : Binds X.K fd ps ds) (hd : Vals dvs ds) (hx : Passes CX X E)
    (ha : PA X (e :: es) t) (hdb : (x == ("__debug__" : Str)) = false := by decide) (he : starEach (e :: es) X.env = (false, eval e X.env) :: starEach es X.env := by rfl) (hpl : (backTo pos (starEach es X.env)).any (·.1) = false := by rfl) :
    PE X (.Call (.Name x p) (e :: es) [] pos) (tCall sp dvs E t) := by
  intro pins s σ H Q I h
  refine wpAny_Call_Name_kw (ld_glob I hg hm ?_ hdb)
  refine PySem.W.callWith_K (h₀ := X.base) I.ok.mod.kin hk (thn (ha pos pins s σ H _ I h) fun us s1 ⟨vs, H1, I1, r, q⟩ => ⟨I1.kIn, ?_⟩) he hpl
  exact run_fn F hr hb hd hx I1 r q


/-- what a class must have to be made -/
structure Mk (K : PySem.W.Frag) (C f : Addr) : Prop where
  makes : PySem.W.makesIn K C = true
  init : PySem.W.findIn K (.ref C) "__init__" = some (some (.ref f))
  fn : PySem.W.isFn K (.ref f) = true
  kp : PySem.W.keepIn K (.ref C) = true

end

/-! ### keywords -/
/-- the values of the keywords, from the left -/
def PK (X : Cx) (kws : List Keyword) (t : TA) : Prop :=
  ∀ (pos : Pos) (pins : List (Addr × Obj)) (s : Shared) (σ : St) (H : Hp) (Q : List V → Hp → Prop), Inv X pins σ H s → t σ H Q → wpAny (model X.prog X.w) X.A (evalAll ((backToKw pos (keywordEach kws X.env)).map (·.2))) (AP X pins σ Q) X.xe s
section
variable {X : Cx} {CX : CXT} {k : Nat} {f C : Addr} {fd : FuncData} {ps ks : List Str} {sp : Sp} {E : XK} {x m : Str} {p pos apos kpos : Pos} {e o : Expr} {es : List Expr} {kws : List Keyword} {te ta : TE} {t tk : TA} {nm : Option Str}

/-- how a call with keywords binds: g puts the positional values us and the keywords' values ws (names ks) in the parameters' order, defaults among them -/
structure KBinds (K : PySem.W.Frag) (fd : FuncData) (ps ks : List Str) (g : List Value → List Value → List Value) (gV : List V → List V → List V) : Prop where
  to : ∀ (s : Shared) (us ws : List Value), K.In s.heap → (g us ws).length = ps.length → BindsTo s fd ⟨us, ks.zip ws⟩ (ps.zip (g us ws))
  rel : ∀ {vs : List V} {us : List Value} {zs : List V} {ws : List Value}, Vals vs us → Vals zs ws → Vals (gV vs zs) (g us ws)
def tCallK (sp : Sp) (gV : List V → List V → List V) (E : XK) (t tk : TA) : TE := fun σ H Q => t σ H fun vs H1 => tk σ H1 fun zs H2 => sp (gV vs zs) H2 Q E
variable {g : List Value → List Value → List Value} {gV : List V → List V → List V}
end

/-! ### a def's body keeps its promise -/
/-- names: the parameters first -/
structure FnScope (N P : List Str) (sc : Scope) : Prop where
  kind : sc.kind = .function
  co : sc.isCoroutine = false
  gen : sc.isGenerator = false
  nd : N.Nodup
  pre : N.take P.length = P
  par : ∀ x ∈ P, sc.names.lookup x = some .local ∨ sc.names.lookup x = some .cell
  nofree : ∀ y ∈ sc.names, y.2 ≠ .free

theorem bindL_out {kindOf : Str → Option NameKind} {x : Str} : ∀ {binds : List (Str × Value)} {m : Str → Option Value}, (∀ v, (x, v) ∉ binds) → bindL kindOf binds m x = m x
  | [], _, _ => rfl
  | (n, v) :: r, m, h => by
    unfold bindL
    rw [bindL_out fun w hw => h w (List.mem_cons_of_mem _ hw)]
    split
    · have : x ≠ n := by rintro rfl; exact h v List.mem_cons_self
      simp [this]
    · rfl
theorem bindC_out {kindOf : Str → Option NameKind} {x : Str} : ∀ {binds : List (Str × Value)} {m : Str → Option Value}, (∀ v, (x, v) ∉ binds) → bindC kindOf binds m x = m x
  | [], _, _ => rfl
  | (n, v) :: r, m, h => by
    unfold bindC
    rw [bindC_out fun w hw => h w (List.mem_cons_of_mem _ hw)]
    split
    · rfl
    · have : x ≠ n := by rintro rfl; exact h v List.mem_cons_self
      simp [this]
theorem bindL_get {kindOf : Str → Option NameKind} {x : Str} {v : Value} : ∀ {P : List Str} {vs : List Value} {i : Nat} {m : Str → Option Value}, P.Nodup → P[i]? = some x → vs[i]? = some v → kindOf x = some .local →
    bindL kindOf (P.zip vs) m x = some v
  | [], _, _, _, _, h, _, _ => by simp at h
  | _ :: _, [], _, _, _, _, h, _ => by simp at h
  | p :: P, w :: vs, 0, m, nd, h1, h2, hk => by
    simp at h1 h2; subst h1; subst h2
    show bindL kindOf ((p, w) :: P.zip vs) m p = _
    unfold bindL
    rw [bindL_out fun v hv => (List.nodup_cons.mp nd).1 (List.of_mem_zip hv).1, if_pos hk]
    simp
  | p :: P, w :: vs, i + 1, m, nd, h1, h2, hk => by
    show bindL kindOf ((p, w) :: P.zip vs) m x = _
    unfold bindL
    exact bindL_get (i := i) (List.nodup_cons.mp nd).2 (by simpa using h1) (by simpa using h2) hk
theorem bindC_get {kindOf : Str → Option NameKind} {x : Str} {v : Value} : ∀ {P : List Str} {vs : List Value} {i : Nat} {m : Str → Option Value}, P.Nodup → P[i]? = some x → vs[i]? = some v → kindOf x ≠ some .local →
    bindC kindOf (P.zip vs) m x = some v
  | [], _, _, _, _, h, _, _ => by simp at h
  | _ :: _, [], _, _, _, _, h, _ => by simp at h
  | p :: P, w :: vs, 0, m, nd, h1, h2, hk => by
    simp at h1 h2; subst h1; subst h2
    show bindC kindOf ((p, w) :: P.zip vs) m p = _
    unfold bindC
    rw [bindC_out fun v hv => (List.nodup_cons.mp nd).1 (List.of_mem_zip hv).1, if_neg hk]
    simp
  | p :: P, w :: vs, i + 1, m, nd, h1, h2, hk => by
    show bindC kindOf ((p, w) :: P.zip vs) m x = _
    unfold bindC
    exact bindC_get (i := i) (List.nodup_cons.mp nd).2 (by simpa using h1) (by simpa using h2) hk

/-- the names' values at the entry -/
def start (N : List Str) (vs : List V) : St := vs.map some ++ List.replicate (N.length - vs.length) none

/-- the context of a def's body, at its entry; an exception leaves the frame, then lies as CX says -/
def cxOf (CX : CXT) (P : Program) (w : World) (K : PySem.W.Frag) (mg : Str → Option Value) (base : Heap) (N : List Str) (qual : Str) (scope : Scope) (f : Addr) (cd : Value) (A : Around) (outer : List Env) (s : Shared) (H : Hp) (E : XK) : Cx where
  prog := P
  w := w
  K := K
  mg := mg
  base := base
  A := A.deeper (envOfC qual scope s.heap.objs.size f cd)
  N := N
  s₀ := s
  H₀ := H
  env := envOfC qual scope s.heap.objs.size f cd
  outer := outer
  stack := envOfC qual scope s.heap.objs.size f cd :: outer
  ex := []
  calm := true
  fn := fun _ => true
  pn := []
  xe := fun e s' => wpAny (model P w) (A.deeper (envOfC qual scope s.heap.objs.size f cd)) (leaving (envOfC qual scope s.heap.objs.size f cd) e) (fun _ s'' => CX outer H s E e s'') (fun e' s'' => CX outer H s E e' s'') s'

theorem cell_has {sc : Scope} {n : Nat} {x : Str} (h : sc.names.lookup x = some .cell) : ∃ c, (cellsFrom n sc.names []).lookup x = some c := by
  have q := PySem.W.cellsFrom_some sc.names n [] (.inl h)
  exact Option.isSome_iff_exists.mp q

theorem inv_start {CX : CXT} {P : Program} {w : World} {K : PySem.W.Frag} {mg : Str → Option Value} {base : Heap} {N ps : List Str} {qual : Str} {scope : Scope} {f : Addr} {cd : Value} {A : Around} {outer : List Env} {s s1 : Shared} {H : Hp} {E : XK} {us : List Value} {vs : List V}
    (S : FnScope N ps scope) (hd : A.handled = none) (e0 : Env0 P w K mg base A outer s H) (hl : vs.length = ps.length) (r : Vals vs us)
    (x : InCallC s s.heap.objs.size (bindL (envOfC qual scope s.heap.objs.size f cd).kindOf (ps.zip us) fun _ => none) (cellsFrom (s.heap.objs.size + 1) scope.names []) (bindC (envOfC qual scope s.heap.objs.size f cd).kindOf (ps.zip us) fun _ => none) s1) :
    Inv (cxOf CX P w K mg base N qual scope f cd A outer s H E) [] (start N vs) H s1 := by
  have hpl : ps.length ≤ N.length := by have := congrArg List.length S.pre; rw [List.length_take] at this; omega
  obtain ⟨h1, tk, rfl, hk⟩ := x.done
  have noA : ∀ b : Addr, b ∉ (cxOf CX P w K mg base N qual scope f cd A outer s H E).ex := fun b z => absurd (show b ∈ ([] : List Addr) from z) (by simp)
  refine ⟨⟨e0.mod, S.kind, rfl, rfl, Nat.le_refl _, fun y z c h1 h2 => ?_, fun y hy => ?_, fun y c _ h => ?_, fun _ => hd, Around.frames_deeper e0.frames, .inr ⟨rfl, rfl⟩, fun b z => absurd z (noA b), e0.bs, e0.bsz, fun b _ _ => noA b, fun b z => absurd z (noA b), e0.funs, e0.frf⟩,
    rfl, e0.bare, Un.kept hk, ⟨_, x.toInCall.ns, fun i y v h1 h2 h3 => ?_⟩, fun y c h => ⟨_, x.cell y c h⟩, e0.hok.fresh (Nat.le_refl _), fun y c h => ?_, fun p hp => absurd (show p ∈ ([] : List (Addr × Obj)) from hp) (by simp), e0.hok.kept hk, ?_⟩
  · exact name_of_addr x.apart (PySem.mem_of_lookup h1) (PySem.mem_of_lookup h2)
  · have hy : scope.names.lookup y = some .cell ∨ scope.names.lookup y = some .free := hy
    rcases hy with hy | hy
    · exact cell_has hy
    · exact absurd rfl (S.nofree _ (PySem.mem_of_lookup hy))
  · exact Nat.le_of_lt (x.above y c (PySem.mem_of_lookup h))
  · have hi : i < vs.length := by
      unfold start at h2
      by_cases hi : i < vs.length
      · exact hi
      · rw [List.getElem?_append_right (by simpa using hi)] at h2
        rw [List.getElem?_replicate] at h2
        split at h2 <;> cases h2
    have ha : vs[i]? = some v := by
      unfold start at h2
      rw [List.getElem?_append_left (by simpa using hi), List.getElem?_map] at h2
      cases e : vs[i]? with
      | none => rw [e] at h2; cases h2
      | some a => rw [e] at h2; cases h2; rfl
    obtain ⟨u, hu, rv⟩ := r.get ha
    have hp : ps[i]? = some y := by
      rw [← S.pre, List.getElem?_take_of_lt (by omega)]; exact h1
    have ndP : ps.Nodup := by rw [← S.pre]; exact S.nd.sublist (List.take_sublist _ _)
    refine ⟨u, rv, ?_⟩
    rcases S.par y (List.mem_of_getElem? hp) with k | k
    · exact .inl ⟨k, bindL_get ndP hp hu k⟩
    · obtain ⟨c, e⟩ := cell_has (n := s.heap.objs.size + 1) k
      refine .inr ⟨.inl k, c, e, ?_⟩
      have q := x.cell y c e
      rw [bindC_get ndP hp hu (by show scope.names.lookup y ≠ _; rw [k]; decide)] at q
      exact q
  · exact e0.hok.fresh (Nat.le_of_lt (x.above y c (PySem.mem_of_lookup h)))
  · unfold start
    show _ = N.length
    rw [List.length_append, List.length_map, List.length_replicate]
    omega

/-- THE RULE: a def (or a method) of the text, by its body. The body's reading t is chosen for each entry; it is run at the parameters' values -/
theorem fn_of {CX : CXT} {P : Program} {w : World} {K : PySem.W.Frag} {mg : Str → Option Value} {base : Heap} {k : Nat} {f : Addr} {name qual : Str} {params : Arguments} {body : List Stmt} {scope : Scope} {dV kV doc pm cdv ct oc : Value} {an od : Option Addr}
    {osl : Array (Option Value)} {N ps : List Str} {sp : Sp} (lk : K.lookup f = some ⟨oc, od, .func (PySem.W.fnOf name qual params body scope dV kV doc pm an cdv ct), osl⟩) (hcd : PySem.W.codeIn K cdv qual = true) (S : FnScope N ps scope)
    (len : ∀ vs H Q E, sp vs H Q E → vs.length = ps.length)
    (hbody : ∀ (A : Around) (outer : List Env) (s : Shared) (H : Hp) (vs : List V) (Q : VK) (E : XK), Room k (A.deeper (envOfC qual scope s.heap.objs.size f cdv)) → sp vs H Q E →
      ∃ t, PSs (cxOf CX P w K mg base N qual scope f cdv A outer s H E) body t ∧ t { nx := fun _ H' => Q .non H', rt := Q } (start N vs) H) :
    FnOk P w K mg base CX (k + 1) f (PySem.W.fnOf name qual params body scope dV kV doc pm an cdv ct) ps sp := by
  refine ⟨len, fun A outer s H args us vs Q E hr e0 hb r hsp => ?_⟩
  have hl := len _ _ _ _ hsp
  have KX : K.In s.heap := e0.mod.kin.keeps fun b o e => (e0.bs b o e).1
  have lim : s.heap.NoLimit := e0.mod.nolimit.keeps fun b o e => (e0.bs b o e).1
  have hkind : ∀ y ∈ ps.zip us, scope.names.lookup y.1 = some .local ∨ (scope.names.lookup y.1 = some .cell ∧ ((cellsFrom (s.heap.objs.size + 1) scope.names []).lookup y.1).isSome = true) := fun ⟨n, v⟩ hy => by
    rcases S.par n (List.of_mem_zip hy).1 with q | q
    · exact .inl q
    · exact .inr ⟨q, PySem.W.cellsFrom_some _ _ _ (.inl q)⟩
  refine codeAny_call_function hr.depth (KX _ _ lk) rfl S.co S.gen rfl (PySem.W.codeRec_of KX hcd) (hb _ _ _ _ ?_)
  refine wpAny_newFunctionEnv_cells S.kind hkind fun env he s1 x => ?_
  subst he
  refine ⟨lim.keeps x.toInCall.keep, codeAny_func ?_⟩
  obtain ⟨t, ht, hq⟩ := hbody A outer s H vs Q E (hr.deeper _) hsp
  have I : Inv (cxOf CX P w K mg base N qual scope f cdv A outer s H E) [] (start N vs) H s1 := inv_start S hr.hd e0 hl r x
  refine wpAny_mono (ht [] s1 (start N vs) H _ I hq) (fun fl s' hs => ?_) fun e s' hs => hs
  have fin : ∀ {σ' : St} {H' : Hp} {v : V} {u : Value}, Inv (cxOf CX P w K mg base N qual scope f cdv A outer s H E) [] σ' H' s' → RelV v u → Q v H' → CE outer P w H s Q u s' :=
    fun {σ' H' v u} J rv q => ⟨v, H', J.os, J.bare, J.base, J.hok, rv, q⟩
  cases fl with
  | ret u =>
    obtain ⟨v, σ', H', J, rv, q⟩ := hs
    exact fin J rv q
  | next =>
    obtain ⟨σ', H', J, q⟩ := hs
    exact fin (v := V.non) (u := Value.none) J rfl q
  | brk =>
    obtain ⟨_, _, _, q⟩ := hs
    exact False.elim q
  | cont =>
    obtain ⟨_, _, _, q⟩ := hs
    exact False.elim q
end L2

namespace L2
open PySem PySem.Spec PyProof.Rows
section
variable {X : Cx} {x : Str} {p pos : Pos} {e : Expr} {es : List Expr} {t : TA} {id T : String} {r : List V → Hp → VK → Prop}

def tCB (r : List V → Hp → VK → Prop) (t : TA) : TE := fun σ H Q => t σ H fun vs H1 => r vs H1 Q
/-- f(e, ..), f a built-in function -/
theorem pe_callB (hc : CallR X (.builtin id) r) (hg : Gl X x) (hm : X.mg x = none) (hv : bootBuiltins x = some (.builtin id)) (ha : PA X (e :: es) t) (hn : x ≠ "__name__" := by decide) (hdb : (x == ("__debug__" : Str)) = false := by decide)
    (he : starEach (e :: es) X.env = (false, eval e X.env) :: starEach es X.env := by rfl) (hpl : (backTo pos (starEach es X.env)).any (·.1) = false := by rfl) : PE X (.Call (.Name x p) (e :: es) [] pos) (tCB r t) := by
  intro pins s σ H Q I h
  refine wpAny_Call_Name_kw (ld_blt I hg hm hv ?_ hn hdb)
  exact PyProof.Rows.callWith_builtin1 (thn (ha pos pins s σ H _ I h) fun us s1 ⟨vs, H1, I1, r1, q1⟩ => hc pins s1 σ H1 vs us Q I1 r1 q1) he hpl
/-- T(e, ..), T a built-in type -/
theorem pe_callTy (hc : CallR X (.type T) r) (hg : Gl X x) (hm : X.mg x = none) (hv : bootBuiltins x = some (.type T)) (ha : PA X (e :: es) t) (hn : x ≠ "__name__" := by decide) (hdb : (x == ("__debug__" : Str)) = false := by decide)
    (he : starEach (e :: es) X.env = (false, eval e X.env) :: starEach es X.env := by rfl) (hpl : (backTo pos (starEach es X.env)).any (·.1) = false := by rfl) : PE X (.Call (.Name x p) (e :: es) [] pos) (tCB r t) := by
  intro pins s σ H Q I h
  refine wpAny_Call_Name_kw (ld_blt I hg hm hv ?_ hn hdb)
  exact PyProof.Rows.callWith_type1 (thn (ha pos pins s σ H _ I h) fun us s1 ⟨vs, H1, I1, r1, q1⟩ => hc pins s1 σ H1 vs us Q I1 r1 q1) he hpl
end
end L2

namespace HT
open PySem PyProof.Rows

/-- t < u of tuples of ints -/
def lexLt : List Int → List Int → Bool
  | [], [] => false
  | [], _ :: _ => true
  | _ :: _, [] => false
  | x :: xs, y :: ys => if x = y then lexLt xs ys else decide (x < y)


section
open PySem.SeqAt
open PySem.AutoSeq1 (wpAny_loadPart')
open PySem.MeetsSeq PySem.MeetsSeq2 PySem.MeetsSeq3

end

section
variable {prog : Program} {w : World} {A : Around} {E : Value → Shared → Prop} {s : Shared}


/-- t + u, t not empty -/
theorem cat_tup {t b : Addr} {vs ws : List Value} {Q : Value → Shared → Prop} (ht : IsTup s.heap t vs.toArray) (hb : IsTup s.heap b ws.toArray) (hv : vs ≠ [])
    (h1 : ws = [] → Q (.ref t) s) (h2 : ws ≠ [] → Q (.ref s.heap.objs.size) { s with heap := s.heap.push { cls := .type "tuple", data := .seq (vs ++ ws).toArray } })
    (hsz : vs.length + ws.length ≤ sizeLine) : wpAny (model prog w) A (binaryOp .Add (.ref t) (.ref b)) Q E s := by
  obtain ⟨⟨cls, dd, data, sl⟩, ho, hc, n, hd⟩ := id ht
  obtain ⟨⟨cls2, dd2, data2, sl2⟩, ho2, hc2, n2, hd2⟩ := id hb
  simp only at hc hd hc2 hd2
  subst hc hd hc2 hd2
  have e : vs.toArray ++ ws.toArray = (vs ++ ws).toArray := by simp
  by_cases hw : ws = []
  · exact concat_meets ⟨_, ho, rfl⟩ ⟨_, ho2, rfl⟩ noFill_tuple_add seq_tuple_add PySem.F.slot_tuple_add PySem.F.entry_tuple_add (PySem.F.args_tuple_add_2 _ _)
      (tuple_addW1 t b vs.toArray ws.toArray n n2 dd dd2 sl sl2 (by simpa using hv) (by simp [hw])) ⟨ho, ho2, h1 hw⟩
  · refine concat_meets ⟨_, ho, rfl⟩ ⟨_, ho2, rfl⟩ noFill_tuple_add seq_tuple_add PySem.F.slot_tuple_add PySem.F.entry_tuple_add (PySem.F.args_tuple_add_2 _ _)
      (tuple_addW2 t b vs.toArray ws.toArray n n2 dd dd2 sl sl2 (by simpa using hv) (by simpa using hw) (by rw [List.size_toArray, List.size_toArray]; exact hsz)) ⟨ho, ho2, ?_⟩
    rw [e]
    exact h2 hw

/-! ### t[a:b], not the whole -/
/-- a slice's bound as a place among n (d where it is left out) -/
def sIx (n d : Nat) : Option Int → Nat
  | none => d
  | some v => if v < 0 then (v + (n : Int)).toNat else min v.toNat n
theorem sIx_none (n d : Nat) : sIx n d none = d := rfl
theorem sIx_nat (n d k : Nat) : sIx n d (some (k : Int)) = min k n := by
  show (if (k : Int) < 0 then ((k : Int) + (n : Int)).toNat else min (k : Int).toNat n) = min k n
  rw [if_neg (by omega), Int.toNat_natCast]
theorem sIx_le (n d : Nat) (hd : d ≤ n) (o : Option Int) : sIx n d o ≤ n := by
  cases o with
  | none => exact hd
  | some v =>
    show (if v < 0 then (v + (n : Int)).toNat else min v.toNat n) ≤ n
    by_cases hv : v < 0
    · rw [if_pos hv]; omega
    · rw [if_neg hv]; exact Nat.min_le_right _ _
theorem clip_eq (v : Int) (n d : Nat) : (if v < 0 then max (v + (n : Int)) 0 else min v (n : Int)) = ((sIx n d (some v) : Nat) : Int) := by
  show (if v < 0 then max (v + (n : Int)) 0 else min v (n : Int)) = (((if v < 0 then (v + (n : Int)).toNat else min v.toNat n) : Nat) : Int)
  by_cases hv : v < 0
  · simp only [if_pos hv]; omega
  · simp only [if_neg hv]; omega
theorem adjust_gen (lo hi : Option Int) (n : Nat) : Builtin.Slice.sliceAdjust lo hi 1 (n : Int) = (((sIx n 0 lo : Nat) : Int), ((sIx n n hi : Nat) : Int)) := by
  have h1 : ¬ ((1 : Int) < 0) := by omega
  unfold Builtin.Slice.sliceAdjust
  simp only [h1, if_false]
  refine Prod.ext ?_ ?_
  · cases lo with
    | none => rfl
    | some v => exact clip_eq v n 0
  · cases hi with
    | none => rfl
    | some v => exact clip_eq v n n
theorem places_gen (i j : Nat) : Builtin.Slice.slicePlaces (i : Int) (j : Int) 1 = j - i := by
  unfold Builtin.Slice.slicePlaces
  have h1 : (1 : Int) > 0 := by omega
  simp only [h1, if_true, Int.ediv_one]
  split <;> omega
theorem slicePart_ {v : Value} {o : Option Int} {Q : Option Int → Shared → Prop} (p : IsPart v o) (h : Q o s) : wpAny (model prog w) A (Builtin.Slice.slicePartIndex v) Q E s := by
  cases p with
  | none => exact slicePart_none h
  | int i t => exact slicePart_int h
theorem sliceApplied_gen {sl : Addr} {vl vu : Value} {lo hi : Option Int} {n : Nat} {Q : Int × Int × Nat → Shared → Prop} (hs : s.heap.IsSliceOf sl vl vu .none) (pl : IsPart vl lo) (pu : IsPart vu hi)
    (h : Q (((sIx n 0 lo : Nat) : Int), 1, sIx n n hi - sIx n 0 lo) s) : wpAny (model prog w) A (Builtin.Slice.sliceApplied (.ref sl) (pure (n : Int))) Q E s := by
  obtain ⟨os, hos, hcs, hds⟩ := id hs
  unfold Builtin.Slice.sliceApplied Builtin.Slice.sliceFields
  refine wpAny_bind (wpAny_bind (wpAny_field hos hds (x := vl) rfl (wpAny_bind (wpAny_field hos hds (x := vu) rfl (wpAny_bind (wpAny_field hos hds (x := .none) rfl (wpAny_pure ?_)))))))
  refine wpAny_bind (slicePart_none ?_)
  show wpAny _ _ (if ((1 : Int) == 0) = true then _ else _) _ _ s
  rw [if_neg (by decide)]
  refine wpAny_bind (slicePart_ pl (wpAny_bind (slicePart_ pu (wpAny_bind (wpAny_pure ?_)))))
  show wpAny _ _ (match Builtin.Slice.sliceAdjust lo hi 1 (n : Int) with | (lo, hi) => pure (lo, (1 : Int), Builtin.Slice.slicePlaces lo hi 1)) _ _ s
  rw [adjust_gen lo hi n]
  show wpAny _ _ (pure (((sIx n 0 lo : Nat) : Int), (1 : Int), Builtin.Slice.slicePlaces ((sIx n 0 lo : Nat) : Int) ((sIx n n hi : Nat) : Int) 1)) _ _ s
  rw [places_gen]
  exact wpAny_pure h
theorem pick_gen (xs : Array Value) (i k : Nat) : ((List.range k).filterMap fun (m : Nat) => xs[((i : Int) + (m : Int) * 1).toNat]?).toArray = ((xs.toList.drop i).take k).toArray := by
  have e : (fun (m : Nat) => xs[((i : Int) + (m : Int) * 1).toNat]?) = fun m => xs[i + m]? := by
    funext m
    have : ((i : Int) + (m : Int) * 1).toNat = i + m := by omega
    rw [this]
  rw [e]
  have := pick_run xs i k
  rw [List.filterMap_map] at this
  have e2 : ((fun x => xs[x]?) ∘ fun x => i + x) = fun m => xs[i + m]? := rfl
  rw [e2] at this
  rw [this]

theorem getItem_tuple_cut {t sl : Addr} {items : Array Value} {vl vu : Value} {lo hi : Option Int} {Q : Value → Shared → Prop} (ht : IsTup s.heap t items) (hs : s.heap.IsSliceOf sl vl vu .none) (pl : IsPart vl lo) (pu : IsPart vu hi)
    (hw : ¬ (sIx items.size 0 lo = 0 ∧ sIx items.size items.size hi = items.size))
    (h : Q (.ref s.heap.objs.size) { s with heap := s.heap.push { cls := .type "tuple", data := .seq ((items.toList.drop (sIx items.size 0 lo)).take (sIx items.size items.size hi - sIx items.size 0 lo)).toArray } })
    (hsz : items.size ≤ sizeLine) : wpAny (model prog w) A (getItem (.ref t) (.ref sl)) Q E s := by
  have htake : sizeOk (.seq ((items.toList.drop (sIx items.size 0 lo)).take (sIx items.size items.size hi - sIx items.size 0 lo)).toArray) := by
    show ((items.toList.drop (sIx items.size 0 lo)).take (sIx items.size items.size hi - sIx items.size 0 lo)).toArray.size ≤ sizeLine
    rw [List.size_toArray, List.length_take, List.length_drop, Array.length_toList]
    omega
  have hj : sIx items.size items.size hi ≤ items.size := sIx_le _ _ (Nat.le_refl _) hi
  obtain ⟨os, hos, hcs, hds⟩ := id hs
  have hTs : s.TypeIs (.ref sl) "slice" := ⟨os, hos, hcs⟩
  unfold getItem
  try with_reducible refine wpAny_holding ?_
  first | refine wpAny_bind (wpAny_pure ?_) | skip
  refine wpAny_bind (wpAny_sequenceKey ht.typeIs (by decide) ?_)
  refine wpAny_bind (wpAny_callSpecial?_slot (name := Str.ofString "__getitem__") ht.typeIs PyProof.Rows.slot_tuple_getitem
    (wpAny_call_entry PyProof.Rows.slot_tuple_getitem ht.typeIs entry_tuple_getitem ?_ (args_tuple_getitem _ _)))
  show wpAny _ _ (Builtin.Tuple.tupleItemsOf (.ref t) >>= _) _ _ s
  refine wpAny_bind (tupleItemsOf_ ht ?_)
  refine wpAny_bind (wpAny_typeOf hTs ?_)
  rw [if_pos (by decide)]
  refine wpAny_bind (sliceApplied_gen hs pl pu ?_)
  have hno : ¬ ((((sIx items.size 0 lo : Nat) : Int) == 0 && (1 : Int) == 1 && (sIx items.size items.size hi - sIx items.size 0 lo) == items.size) = true) := by
    intro q
    rw [Bool.and_eq_true, Bool.and_eq_true] at q
    have q1 : ((sIx items.size 0 lo : Nat) : Int) = 0 := eq_of_beq q.1.1
    have q2 : sIx items.size items.size hi - sIx items.size 0 lo = items.size := eq_of_beq q.2
    exact hw ⟨by omega, by omega⟩
  show wpAny _ _ (if (((sIx items.size 0 lo : Nat) : Int) == 0 && (1 : Int) == 1 && (sIx items.size items.size hi - sIx items.size 0 lo) == items.size) = true then _ else _) _ _ s
  rw [if_neg hno, pick_gen]
  first
    | exact wpAny_bind (m := Builtin.Tuple.tupleExact _) (wpAny_newObj_type (wpAny_pure ⟨_, rfl, wpAny_pure h⟩) htake)
    | exact wpAny_bind (m := Builtin.Tuple.tupleExact _) (wpAny_newObj_type (wpAny_bind (wpAny_pure (wpAny_pure ⟨_, rfl, wpAny_pure h⟩))) htake)
    | exact wpAny_bind (wpAny_bind (m := Builtin.Tuple.tupleExact _) (wpAny_newObj_type (wpAny_pure (wpAny_pure ⟨_, rfl, wpAny_pure h⟩)) htake))
    | exact wpAny_bind (wpAny_bind (m := Builtin.Tuple.tupleExact _) (wpAny_newObj_type (wpAny_pure ⟨_, rfl, wpAny_pure h⟩) htake))
end
end HT

namespace L2
open PySem PySem.Spec PyProof.Rows

/-! ### the parts of a slice -/
abbrev TO := St → Hp → (Option Int → Hp → Prop) → Prop
/-- a slice's part (left out, or an int) -/
def PO (X : Cx) (e : Option Expr) (t : TO) : Prop :=
  ∀ (pins : List (Addr × Obj)) (s : Shared) (σ : St) (H : Hp) (Q : Option Int → Hp → Prop), Inv X pins σ H s → t σ H Q →
    wpAny (model X.prog X.w) X.A (evalPart e X.env) (fun u s' => ∃ o H', Inv X pins σ H' s' ∧ IsPart u o ∧ Q o H') X.xe s
def tNoPart : TO := fun _ H Q => Q none H
def tPart (t : TE) : TO := fun σ H Q => t σ H fun x H1 => ∃ i, x = .int i ∧ Q (some i) H1


section
variable {X : Cx} {e : Expr} {te : TE} {lo hi : Option Expr} {tl th : TO} {pos p2 : Pos}

theorem po_none : PO X none tNoPart := by
  intro pins s σ H Q I h
  rw [evalPart_none]
  exact wpAny_pure ⟨none, H, I, .none, h⟩
theorem po_some (h : PE X e te) : PO X (some e) (tPart te) := by
  intro pins s σ H Q I hw
  rw [evalPart_some]
  refine thn (h pins s σ H _ I hw) fun u s1 ⟨x, H1, I1, r1, q1⟩ => ?_
  obtain ⟨i, rfl, q⟩ := q1
  obtain ⟨t, rfl⟩ := r1
  exact ⟨some i, H1, I1, .int i t, q⟩

/-- what a slice of a value is, by values: the slice object stands at sl -/
def SlR (X : Cx) (r : V → Option Int → Option Int → Hp → VK → Prop) : Prop :=
  ∀ (pins : List (Addr × Obj)) (s : Shared) (σ : St) (H : Hp) (x : V) (v vl vu : Value) (lo hi : Option Int) (sl : Addr) (Q : VK), Inv X pins σ H s → RelV x v → s.heap.IsSliceOf sl vl vu .none → IsPart vl lo → IsPart vu hi → r x lo hi H Q →
    ∃ T id, typeLookup (.type T) "__getitem__" = pure (some (.builtin id)) ∧ s.TypeIs v T ∧ wpAny (model X.prog X.w) X.A (getItem v (.ref sl)) (EP X pins σ Q) X.xe s
theorem SlR.or {r r' : V → Option Int → Option Int → Hp → VK → Prop} (h : SlR X r) (h' : SlR X r') : SlR X (fun x lo hi H Q => r x lo hi H Q ∨ r' x lo hi H Q) := by
  intro pins s σ H x v vl vu lo hi sl Q I rx hs pl pu q
  rcases q with q | q
  · exact h pins s σ H x v vl vu lo hi sl Q I rx hs pl pu q
  · exact h' pins s σ H x v vl vu lo hi sl Q I rx hs pl pu q
def tSl (r : V → Option Int → Option Int → Hp → VK → Prop) (te : TE) (tl th : TO) : TE := fun σ H Q => te σ H fun x H1 => tl σ H1 fun l H2 => th σ H2 fun u H3 => r x l u H3 Q
/-- a[lo:hi], any a -/
theorem pe_slice {r : V → Option Int → Option Int → Hp → VK → Prop} (hr : SlR X r) (he : PE X e te) (hl : PO X lo tl) (hu : PO X hi th) : PE X (.Subscript e (.Slice lo hi none p2) pos) (tSl r te tl th) := by
  intro pins s σ H Q I h
  refine Subscript_ (thn (he pins s σ H _ I h) fun v s1 ⟨x, H1, I1, r1, q1⟩ => ?_)
  refine wpAny_Slice (thn (hl pins s1 σ H1 _ I1 q1) fun vl s2 ⟨l, H2, I2, pl, q2⟩ => thn (hu pins s2 σ H2 _ I2 q2) fun vu s3 ⟨u, H3, I3, pu, q3⟩ => ?_)
  rw [evalPart_none]
  refine wpAny_pure ?_
  have I4 : Inv X pins σ H3 { s3 with heap := s3.heap.push { cls := .type "slice", data := .fields #[vl, vu, .none] } } := I3.kept (t' := s3.toks) fun b ob q => Heap.get?_push_of_some _ q
  obtain ⟨T, id, hT, ht, hg⟩ := hr pins { s3 with heap := s3.heap.push { cls := .type "slice", data := .fields #[vl, vu, .none] } } σ H3 x v vl vu l u s3.heap.objs.size Q I4 r1 (Heap.IsSliceOf.new ..) pl pu q3
  show wpAny (model X.prog X.w) X.A (subscriptTail e (.Slice lo hi none p2) v (.ref s3.heap.objs.size)) (EP X pins σ Q) X.xe { s3 with heap := s3.heap.push { cls := .type "slice", data := .fields #[vl, vu, .none] } }
  exact tail_any (ops := [.ref s3.heap.objs.size, v]) ht hT hg (by with_unfolding_all rfl)

/-- the items of xs[lo:hi] -/
def cutV (xs : List V) (lo hi : Option Int) : List V := (xs.drop (HT.sIx xs.length 0 lo)).take (HT.sIx xs.length xs.length hi - HT.sIx xs.length 0 lo)
theorem cutV_length (xs : List V) (lo hi : Option Int) : (cutV xs lo hi).length ≤ xs.length := by
  unfold cutV
  rw [List.length_take, List.length_drop]
  omega
/-- t[lo:hi], not the whole of it (the whole would be t itself) -/
def rSlT (K : PySem.W.Frag) : V → Option Int → Option Int → Hp → VK → Prop := fun x lo hi H Q => ∃ a xs, x = .ref a ∧ SqT K H a xs ∧
  ¬ (HT.sIx xs.length 0 lo = 0 ∧ HT.sIx xs.length xs.length hi = xs.length) ∧ ∀ p, H p = none → Q (.ref p) (upd H p (.tup (cutV xs lo hi)))
theorem sl_tup : SlR X (rSlT X.K) := by
  intro pins s σ H x v vl vu lo hi sl Q I rx hs pl pu h
  obtain ⟨a, xs, rfl, hx, hw, q⟩ := h
  cases rx
  obtain ⟨its, r, ht, hz⟩ := I.tuple hx
  have hlen : its.toArray.size = xs.length := by rw [List.size_toArray]; exact r.length.symm
  refine ⟨"tuple", _, PyProof.Rows.slot_tuple_getitem.lookup, ht.typeIs, ?_⟩
  refine HT.getItem_tuple_cut ht hs pl pu (by rw [hlen]; exact hw) ?_ (by rw [hlen]; exact hz)
  rw [hlen]
  refine ⟨.ref s.heap.objs.size, _, I.laid (t' := s.toks) (o := .tup (cutV xs lo hi)) (fun b ob q => Heap.get?_push_of_some _ q) (Nat.le_refl _) ?_, rfl, q _ (I.hok.fresh (Nat.le_refl _))⟩
  exact ⟨Nat.le_trans (cutV_length xs lo hi) hz, _, (r.drop (HT.sIx xs.length 0 lo)).take (HT.sIx xs.length xs.length hi - HT.sIx xs.length 0 lo), IsTup.new _ _⟩

/-! ### t < u, t + u -/
def rLtT (K : PySem.W.Frag) : R2 := fun x y H Q => ∃ a b ns ms, x = .ref a ∧ y = .ref b ∧ SqT K H a (ns.map V.int) ∧ SqT K H b (ms.map V.int) ∧ Q (.bl (HT.lexLt ns ms)) H
/-- t + u, t not empty: u empty gives t itself -/
def rCatT (K : PySem.W.Frag) : R2 := fun x y H Q => ∃ a b xs ys, x = .ref a ∧ y = .ref b ∧ SqT K H a xs ∧ SqT K H b ys ∧ xs ≠ [] ∧ xs.length + ys.length ≤ sizeLine ∧
  (ys = [] → Q (.ref a) H) ∧ (ys ≠ [] → ∀ p, H p = none → Q (.ref p) (upd H p (.tup (xs ++ ys))))
theorem Vals.nil_iff {xs : List V} {us : List Value} (r : Vals xs us) : us = [] ↔ xs = [] := by
  cases r with
  | nil => simp
  | cons _ _ => simp
theorem op_catT : OpR X (binaryOp .Add) (rCatT X.K) := by
  intro pins s σ H x y v u Q I rx ry h
  obtain ⟨a, b, xs, ys, rfl, rfl, ha, hb, hx, hz, q1, q2⟩ := h
  cases rx
  cases ry
  obtain ⟨its, r1, p1, _⟩ := I.tuple ha
  obtain ⟨its2, r2, p2, _⟩ := I.tuple hb
  refine HT.cat_tup p1 p2 (fun z => hx (r1.nil_iff.mp z)) (fun z => ⟨.ref a, H, I, rfl, q1 (r2.nil_iff.mp z)⟩) (fun z => ?_) (by rw [← r1.length, ← r2.length]; exact hz)
  refine ⟨.ref s.heap.objs.size, _, I.laid (t' := s.toks) (o := .tup (xs ++ ys)) (fun b ob q => Heap.get?_push_of_some _ q) (Nat.le_refl _) ?_, rfl, q2 (fun w => z (r2.nil_iff.mpr w)) _ (I.hok.fresh (Nat.le_refl _))⟩
  exact ⟨by rw [List.length_append]; exact hz, _, r1.append r2, IsTup.new _ _⟩
end
end L2

namespace L2
open PySem PySem.Spec PyProof.Rows

/-! ### places -/
/-- the place that an index of any sign means -/
def ixN (n : Nat) (i : Int) : Option Nat := if 0 ≤ i then (if i < n then some i.toNat else none) else if -(n : Int) ≤ i then some (i + n).toNat else none
def atI {α : Type} (xs : List α) (i : Int) : Option α := (ixN xs.length i).bind fun j => xs[j]?
theorem ixN_seq {n : Nat} {i : Int} {j : Nat} (h : ixN n i = some j) : seqIndex? i n = some j ∧ j < n ∧ -(n : Int) ≤ i ∧ i < n := by
  unfold ixN at h
  by_cases h0 : 0 ≤ i
  · rw [if_pos h0] at h
    by_cases h1 : i < n
    · rw [if_pos h1] at h
      have e : i.toNat = j := Option.some.inj h
      exact ⟨by rw [seqIndex_of h0 h1, e], by omega, by omega, h1⟩
    · rw [if_neg h1] at h; cases h
  · rw [if_neg h0] at h
    by_cases h1 : -(n : Int) ≤ i
    · rw [if_pos h1] at h
      have e : (i + n).toNat = j := Option.some.inj h
      exact ⟨by rw [seqIndex_neg (by omega) h1, e], by omega, h1, by omega⟩
    · rw [if_neg h1] at h; cases h
theorem atI_get {α : Type} {xs : List α} {i : Int} {v : α} (h : atI xs i = some v) : ∃ j, seqIndex? i xs.length = some j ∧ xs[j]? = some v ∧ j < xs.length ∧ -(xs.length : Int) ≤ i ∧ i < xs.length := by
  unfold atI at h
  cases e : ixN xs.length i with
  | none => rw [e] at h; cases h
  | some j =>
    rw [e] at h
    obtain ⟨h1, h2, h3, h4⟩ := ixN_seq e
    exact ⟨j, h1, h, h2, h3, h4⟩
theorem atI_nat {α : Type} {xs : List α} {j : Nat} {v : α} (h : xs[j]? = some v) : atI xs (j : Int) = some v := by
  have hj : j < xs.length := (List.getElem?_eq_some_iff.mp h).1
  have e : ixN xs.length (j : Int) = some j := by
    unfold ixN
    rw [if_pos (by omega), if_pos (by omega)]; simp
  unfold atI; rw [e]; exact h
theorem atI_last {α : Type} (xs : List α) (v : α) : atI (xs ++ [v]) (-1) = some v := by
  have hl : (xs ++ [v]).length = xs.length + 1 := by simp
  have e : ixN (xs ++ [v]).length (-1) = some xs.length := by
    unfold ixN
    rw [hl, if_neg (by decide), if_pos (by omega)]
    congr 1
    omega
  unfold atI
  rw [e]
  show (xs ++ [v])[xs.length]? = some v
  simp

/-! ### what may be subscripted -/
/-- what stands as an index of a plain subscript -/
def PlainIx (b : Expr) : Prop := ∀ o i, subscripted b false o i = operate [o, i] (getItem o i)
/-- a subscript by values -/
def IxR (X : Cx) (r : R2) : Prop :=
  ∀ (value slice : Expr) (pins : List (Addr × Obj)) (s : Shared) (σ : St) (H : Hp) (x y : V) (v u : Value) (Q : VK), Inv X pins σ H s → RelV x v → RelV y u → r x y H Q →
    subscripted slice false v u = operate [v, u] (getItem v u) → wpAny (model X.prog X.w) X.A (subscriptTail value slice v u) (EP X pins σ Q) X.xe s
/-- a call of a builtin's method by values: the receiver, the arguments -/
def MtR (X : Cx) (id : String) (r : V → List V → Hp → VK → Prop) : Prop :=
  ∀ (pins : List (Addr × Obj)) (s : Shared) (σ : St) (H : Hp) (x : V) (xs : List V) (v : Value) (us : List Value) (Q : VK), Inv X pins σ H s → RelV x v → Vals xs us → r x xs H Q →
    wpAny (model X.prog X.w) X.A (call (.builtin id) (v :: us)) (EP X pins σ Q) X.xe s
section
variable {X : Cx} {a b : Expr} {ta tb : TE} {pos : Pos}
/-- a[b] -/
theorem pe_ix {r : R2} (hr : IxR X r) (ha : PE X a ta) (hb : PE X b tb) (hs : PlainIx b) : PE X (.Subscript a b pos) (tOp r ta tb) := by
  intro pins s σ H Q I h
  exact Subscript_ (binT ha hb I h fun v u s2 x y H2 I2 rx ry q => hr a b pins s2 σ H2 x y v u Q I2 rx ry q (hs _ _))

def rIxL (K : PySem.W.Frag) : R2 := fun x y H Q => ∃ p xs i v, x = .ref p ∧ y = .int i ∧ SqL K H p xs ∧ atI xs i = some v ∧ Q v H
def rIxT (K : PySem.W.Frag) : R2 := fun x y H Q => ∃ p xs i v, x = .ref p ∧ y = .int i ∧ SqT K H p xs ∧ atI xs i = some v ∧ Q v H
def rIxS : R2 := fun x y H Q => ∃ z i c, x = .str z ∧ y = .int i ∧ z.length ≤ sizeLine ∧ atI z.cps.toList i = some c ∧ Q (.str ⟨#[c]⟩) H
theorem ix_list : IxR X (rIxL X.K) := by
  intro value slice pins s σ H x y v u Q I rx ry h hs
  obtain ⟨p, xs, i, z, rfl, rfl, hq, he, q⟩ := h
  cases rx
  obtain ⟨t, rfl⟩ := ry
  obtain ⟨its, r, pl, hz⟩ := I.list hq
  obtain ⟨j, h1, h2, h3, h4, h5⟩ := atI_get he
  obtain ⟨w, ew, rw'⟩ := r.get h2
  have hl := r.length
  have hn := line63
  have fin : EP X pins σ Q w s := ⟨z, H, I, rw', q⟩
  by_cases h0 : 0 ≤ i
  · have hj : i.toNat = j := by
      rw [seqIndex_of h0 h5] at h1
      exact Option.some.inj h1
    exact item_listR pl.isList h0 (by omega) (by rw [hj]; simpa using ew) fin hs
  · have hj : (i + (its.toArray.size : Int)).toNat = j := by
      rw [seqIndex_neg (by omega) h4] at h1
      rw [List.size_toArray, ← hl]
      exact Option.some.inj h1
    exact subscriptTail_builtinR (x := w) pl.isList.typeIs slot_list_getitem.lookup
      (wpAny_getItem_list_neg (Q := fun r s' => r = w ∧ EP X pins σ Q r s') pl.isList (by omega) (by rw [List.size_toArray] <;> omega) (by omega) (by rw [hj]; simpa using ew) ⟨rfl, fin⟩) hs
theorem ix_tup : IxR X (rIxT X.K) := by
  intro value slice pins s σ H x y v u Q I rx ry h hs
  obtain ⟨p, xs, i, z, rfl, rfl, hq, he, q⟩ := h
  cases rx
  obtain ⟨t, rfl⟩ := ry
  obtain ⟨its, r, pl, hz⟩ := I.tuple hq
  obtain ⟨j, h1, h2, h3, h4, h5⟩ := atI_get he
  obtain ⟨w, ew, rw'⟩ := r.get h2
  have hl := r.length
  have hn := line63
  have fin : EP X pins σ Q w s := ⟨z, H, I, rw', q⟩
  exact subscriptTail_builtinR (x := w) pl.typeIs slot_tuple_getitem.lookup
    (getItem_tuple (j := j) (Q := fun r s' => r = w ∧ EP X pins σ Q r s') pl (by omega) (by omega) (by rw [List.size_toArray, ← hl]; exact h1) (by simpa using ew) ⟨rfl, fin⟩) hs
theorem ix_str : IxR X rIxS := by
  intro value slice pins s σ H x y v u Q I rx ry h hs
  obtain ⟨z, i, c, rfl, rfl, hz, he, q⟩ := h
  obtain ⟨t, rfl⟩ := rx
  obtain ⟨t', rfl⟩ := ry
  obtain ⟨j, h1, h2, h3, h4, h5⟩ := atI_get he
  have hl : z.cps.toList.length = z.length := by simp [Str.length]
  rw [hl] at h1 h4 h5
  have hn := line63
  exact tail_any (typeIs_str s z t) slot_str_getitem.lookup (getItem_str (c := c) (by
    have e1 : decide (i < -(2 ^ 63 : Int)) = false := decide_eq_false (by omega)
    have e2 : decide (i ≥ 2 ^ 63) = false := decide_eq_false (by omega)
    rw [e1, e2, Bool.or_false]) (by rw [h1]; simpa using h2) ⟨.str ⟨#[c]⟩, H, I.tok _, ⟨_, rfl⟩, q⟩) hs
/-- list, tuple or str -/
def rIx (K : PySem.W.Frag) : R2 := fun x y H Q => rIxL K x y H Q ∨ rIxT K x y H Q ∨ rIxS x y H Q

/-! ### xs[i] = v, any sign -/
/-- the list's object behind a store -/
theorem mapSeq_set (its : List Value) (n j : Nat) (u : Value) : Obj.mapSeq (·.setIfInBounds j u) { cls := .type "list", data := .seq its.toArray n } = { cls := .type "list", data := .seq (its.set j u).toArray n } := by
  simp [Obj.mapSeq]
theorem Inv.lst {pins : List (Addr × Obj)} {σ : St} {H : Hp} {s : Shared} {p : Addr} {xs : List V} (I : Inv X pins σ H s) (h : H p = some (.lst xs)) :
    ∃ (its : List Value) (n : Nat), Vals xs its ∧ s.heap.get? p = some { cls := .type "list", data := .seq its.toArray n } ∧ xs.length ≤ sizeLine := by
  obtain ⟨z, its, n, r, e⟩ := I.hok p _ h
  exact ⟨its, n, r, e, z⟩
/-- the list at p is written by an update of its object -/
theorem Inv.lstUpd {pins : List (Addr × Obj)} {σ : St} {H : Hp} {s : Shared} {p : Addr} {xs ys : List V} {its its' : List Value} {n n' : Nat} {f : Obj → Obj} (I : Inv X pins σ H s) (h : H p = some (.lst xs))
    (ho : s.heap.get? p = some { cls := .type "list", data := .seq its.toArray n }) (hf : f { cls := .type "list", data := .seq its.toArray n } = { cls := .type "list", data := .seq its'.toArray n' }) (r : Vals ys its') (hz : ys.length ≤ sizeLine) (t : Nat) :
    Inv X pins σ (upd H p (.lst ys)) { s with heap := s.heap.update p f, toks := t } := by
  have e : (s.heap.update p f).get? p = some { cls := .type "list", data := .seq its'.toArray n' } := by
    rw [Heap.get?_update_self f ho (by rw [hf] <;> rfl), hf]
  refine I.write (x := p) (e := p) (by rw [h]; trivial) (.inl rfl) (fun b u hb q => (Heap.get?_update_other _ _ (Ne.symm hb)).trans q) ⟨_, e⟩ ?_
  exact ⟨hz, its', n', r, e⟩
def rSetL : V → V → V → Hp → (Hp → Prop) → Prop := fun o i v H Q => ∃ p xs k j, o = .ref p ∧ i = .int k ∧ H p = some (.lst xs) ∧ ixN xs.length k = some j ∧ Q (upd H p (.lst (xs.set j v)))
theorem set_list : PSet X rSetL := by
  intro pins s σ H o i v ov iv u Q I ro ri rv h
  obtain ⟨p, xs, k, j, rfl, rfl, hp, hj, q⟩ := h
  cases ro
  obtain ⟨t, rfl⟩ := ri
  obtain ⟨its, n, r, ho, hz⟩ := I.lst hp
  obtain ⟨h1, h2, h3, h4⟩ := ixN_seq hj
  have hl := r.length
  have hn := line63
  have I' : Inv X pins σ (upd H p (.lst (xs.set j v))) { s with heap := s.heap.update p (Obj.mapSeq (·.setIfInBounds j u)) } :=
    I.lstUpd hp ho (mapSeq_set its n j u) (r.set rv j) (by rw [List.length_set]; exact hz) s.toks
  by_cases h0 : 0 ≤ k
  · have hk : k.toNat = j := by
      rw [seqIndex_of h0 h4] at h1
      exact Option.some.inj h1
    exact PySem.W.ki_setAt ho h0 (by omega) (by rw [List.size_toArray, ← hl]; exact h4) (by rw [hk]; exact ⟨_, I', q⟩)
  · have hk : (k + (its.toArray.size : Int)).toNat = j := by
      rw [seqIndex_neg (by omega) h3] at h1
      rw [List.size_toArray, ← hl]
      exact Option.some.inj h1
    exact PySem.W.ki_setBack ho (by omega) (by rw [List.size_toArray, ← hl]; exact h3) (by omega) (by rw [hk]; exact ⟨_, I', q⟩)

/-! ### slices -/
theorem slice_bounds (lo hi : Option Int) (n : Nat) : (sliceBounds lo hi none n).1 = ((HT.sIx n 0 lo : Nat) : Int) ∧ (sliceBounds lo hi none n).2.1 = ((HT.sIx n n hi : Nat) : Int) ∧ (sliceBounds lo hi none n).2.2 = 1 := by
  refine ⟨?_, ?_, rfl⟩
  · cases lo with
    | none => simp [sliceBounds, HT.sIx]
    | some i =>
      simp only [sliceBounds, HT.sIx, Option.getD_none, show (1 : Int) > 0 by decide, if_true]
      by_cases h : i < 0
      · simp only [h, if_true] <;> omega
      · simp only [h, if_false] <;> omega
  · cases hi with
    | none => simp [sliceBounds, HT.sIx]
    | some i =>
      simp only [sliceBounds, HT.sIx, Option.getD_none, show (1 : Int) > 0 by decide, if_true]
      by_cases h : i < 0
      · simp only [h, if_true] <;> omega
      · simp only [h, if_false] <;> omega
theorem slicePick_cut (its : List Value) (lo hi : Option Int) : slicePick its.toArray lo hi none = ((its.drop (HT.sIx its.length 0 lo)).take (HT.sIx its.length its.length hi - HT.sIx its.length 0 lo)).toArray := by
  obtain ⟨h1, h2, h3⟩ := slice_bounds lo hi its.toArray.size
  unfold slicePick
  rw [h1, h2, h3]
  simp only [sliceRange_one, pick_run, List.size_toArray] <;> rfl
/-- xs[lo:hi] of a list: a new list -/
def rSlL (K : PySem.W.Frag) : V → Option Int → Option Int → Hp → VK → Prop := fun x lo hi H Q => ∃ a xs, x = .ref a ∧ SqL K H a xs ∧ ∀ p, H p = none → Q (.ref p) (upd H p (.lst (cutV xs lo hi)))
theorem sl_list : SlR X (rSlL X.K) := by
  intro pins s σ H x v vl vu lo hi sl Q I rx hs pl pu h
  obtain ⟨a, xs, rfl, hx, q⟩ := h
  cases rx
  obtain ⟨its, r, ht, hz⟩ := I.list hx
  have hlen := r.length
  refine ⟨"list", _, slot_list_getitem.lookup, ht.isList.typeIs, ?_⟩
  refine wpAny_getItem_list_slice ht.isList hs pl pu .none (by simp) ?_ (by rw [List.size_toArray] <;> omega)
  rw [slicePick_cut, ← hlen]
  refine ⟨.ref s.heap.objs.size, _, I.laid (t' := s.toks) (o := .lst (cutV xs lo hi)) (fun b ob q => Heap.get?_push_of_some _ q) (Nat.le_refl _) ?_, rfl, q _ (I.hok.fresh (Nat.le_refl _))⟩
  exact ⟨Nat.le_trans (cutV_length xs lo hi) hz, _, 0, (r.drop (HT.sIx xs.length 0 lo)).take (HT.sIx xs.length xs.length hi - HT.sIx xs.length 0 lo), Heap.get?_push_size _ rfl⟩

/-! ### in, not in: flat items -/
def flatV : V → Bool
  | .non => true
  | .bl _ => true
  | .int _ => true
  | .str _ => true
  | _ => false
/-- == of flat values -/
def eqV : V → V → Bool
  | .non, .non => true
  | .bl a, .bl b => a == b
  | .bl a, .int b => (if a then 1 else 0) == b
  | .int a, .bl b => a == (if b then 1 else 0)
  | .int a, .int b => a == b
  | .str a, .str b => a == b
  | _, _ => false
theorem eqAt_V {A : Around} {s : Shared} {y x : V} {u v : Value} (ry : RelV y u) (rx : RelV x v) (fy : flatV y = true) (fx : flatV x = true) : SeqAt.EqAt A s u v (eqV y x) := by
  cases y with
  | non =>
    cases ry
    cases x with
    | non => cases rx; exact SeqAt.EqAt.same _
    | bl b => cases rx; exact SeqAt.EqAt.none_bool b
    | int b => obtain ⟨t, rfl⟩ := rx; exact SeqAt.EqAt.none_int b t
    | str b => obtain ⟨t, rfl⟩ := rx; exact SeqAt.EqAt.none_str b t
    | _ => exact absurd (show false = true from fx) Bool.false_ne_true
  | bl a =>
    cases ry
    cases x with
    | non => cases rx; exact SeqAt.EqAt.bool_none a
    | bl b => cases rx; exact SeqAt.EqAt.bool_bool a b
    | int b => obtain ⟨t, rfl⟩ := rx; exact SeqAt.EqAt.bool_int a b t
    | str b => obtain ⟨t, rfl⟩ := rx; exact SeqAt.EqAt.bool_str a b t
    | _ => exact absurd (show false = true from fx) Bool.false_ne_true
  | int a =>
    obtain ⟨t', rfl⟩ := ry
    cases x with
    | non => cases rx; exact SeqAt.EqAt.int_none a t'
    | bl b => cases rx; exact SeqAt.EqAt.int_bool a t' b
    | int b => obtain ⟨t, rfl⟩ := rx; exact SeqAt.EqAt.int_int a t' b t
    | str b => obtain ⟨t, rfl⟩ := rx; exact SeqAt.EqAt.int_str a t' b t
    | _ => exact absurd (show false = true from fx) Bool.false_ne_true
  | str a =>
    obtain ⟨t', rfl⟩ := ry
    cases x with
    | non => cases rx; exact SeqAt.EqAt.str_none a t'
    | bl b => cases rx; exact SeqAt.EqAt.str_bool a t' b
    | int b => obtain ⟨t, rfl⟩ := rx; exact SeqAt.EqAt.str_int a t' b t
    | str b => obtain ⟨t, rfl⟩ := rx; exact SeqAt.EqAt.str_str a t' b t
    | _ => exact absurd (show false = true from fx) Bool.false_ne_true
  | _ => exact absurd (show false = true from fy) Bool.false_ne_true
/-- the items' answers, read off the values (a value's own answer does not lean on its token) -/
def eqU (x : V) (u : Value) : Bool := match u with
  | .none => eqV .non x
  | .bool b => eqV (.bl b) x
  | .int i _ => eqV (.int i) x
  | .str z _ => eqV (.str z) x
  | _ => false
theorem eqU_of {x y : V} {u : Value} (r : RelV y u) (f : flatV y = true) : eqU x u = eqV y x := by
  cases y with
  | non => cases r; rfl
  | bl b => cases r; rfl
  | int i => obtain ⟨t, rfl⟩ := r; rfl
  | str z => obtain ⟨t, rfl⟩ := r; rfl
  | _ => exact absurd (show false = true from f) Bool.false_ne_true
theorem any_eqU {x : V} : ∀ {xs : List V} {us : List Value}, Vals xs us → xs.all flatV = true → us.any (eqU x) = xs.any fun y => eqV y x
  | _, _, .nil, _ => rfl
  | y :: xs, u :: us, .cons r t, f => by
    rw [List.all_cons, Bool.and_eq_true] at f
    rw [List.any_cons, List.any_cons, eqU_of r f.1, any_eqU t f.2]
theorem mem_eqAt {A : Around} {s : Shared} {x : V} {v : Value} (rx : RelV x v) (fx : flatV x = true) : ∀ {xs : List V} {us : List Value}, Vals xs us → xs.all flatV = true → ∀ u ∈ us, SeqAt.EqAt A s u v (eqU x u)
  | _, _, .nil, _ => fun u hu => by cases hu
  | y :: xs, u :: us, .cons r t, f => fun u' hu => by
    rw [List.all_cons, Bool.and_eq_true] at f
    rcases List.mem_cons.mp hu with rfl | hu
    · rw [eqU_of r f.1]; exact eqAt_V r rx f.1 fx
    · exact mem_eqAt rx fx t f.2 u' hu
def inV (x : V) (xs : List V) : Bool := xs.any fun y => eqV y x
/-- x in a list or tuple of flat items -/
def rIn (K : PySem.W.Frag) (neg : Bool) : R2 := fun x y H Q => ∃ p xs, y = .ref p ∧ (SqL K H p xs ∨ SqT K H p xs) ∧ flatV x = true ∧ xs.all flatV = true ∧ Q (.bl (if neg then !inV x xs else inV x xs)) H
theorem op_in_seq : OpR X (compareOp .In) (rIn X.K false) := by
  intro pins s σ H x y v u Q I rx ry h
  obtain ⟨p, xs, rfl, hq, fx, fs, q⟩ := h
  cases ry
  rcases hq with hq | hq
  · obtain ⟨its, r, pl, hz⟩ := I.list hq
    refine SeqAt.in_listAt (eqU x) pl.isList (fun w hw => mem_eqAt rx fx r fs w (by simpa using hw)) ⟨.bl _, H, I, rfl, ?_⟩
    rw [show its.toArray.any (eqU x) = its.any (eqU x) by simp, any_eqU r fs]
    exact q
  · obtain ⟨its, r, pl, hz⟩ := I.tuple hq
    refine SeqAt.in_tupleAt (eqU x) pl (fun w hw => mem_eqAt rx fx r fs w (by simpa using hw)) ⟨.bl _, H, I, rfl, ?_⟩
    rw [show its.toArray.any (eqU x) = its.any (eqU x) by simp, any_eqU r fs]
    exact q

/-! ### len, list(x), tuple(x) of any list or tuple that is read -/
theorem call_len_seq : CallR X (.builtin "len") (fun xs H Q => ∃ p ys, xs = [.ref p] ∧ (SqL X.K H p ys ∨ SqT X.K H p ys) ∧ Q (.int ys.length) H) := by
  intro pins s σ H xs us Q I r h
  obtain ⟨p, ys, rfl, hq, q⟩ := h
  obtain ⟨u, rfl, rx⟩ := vals1 r
  cases rx
  have hn := line63
  rcases hq with hq | hq
  · obtain ⟨its, r', pl, hz⟩ := I.list hq
    have hlen := r'.length
    exact Calls.call_len_list pl.isList (by simp only [List.size_toArray] <;> omega) ⟨.int ys.length, H, I.tok _, ⟨s.toks + 1, by rw [List.size_toArray, hlen]⟩, q⟩
  · obtain ⟨its, r', pl, hz⟩ := I.tuple hq
    have hlen := r'.length
    exact len_tuple pl (by simp only [List.size_toArray] <;> omega) ⟨.int ys.length, H, I.tok _, ⟨s.toks + 1, by rw [List.size_toArray, hlen]⟩, q⟩
theorem call_tuple_of : CallR X (.type "tuple") (fun xs H Q => ∃ p ys, xs = [.ref p] ∧ ((SqL X.K H p ys ∧ ∀ l, H l = none → Q (.ref l) (upd H l (.tup ys))) ∨ (SqT X.K H p ys ∧ Q (.ref p) H))) := by
  intro pins s σ H xs us Q I r h
  obtain ⟨p, ys, rfl, h⟩ := h
  obtain ⟨u, rfl, rx⟩ := vals1 r
  cases rx
  rcases h with ⟨hq, q⟩ | ⟨hq, q⟩
  · obtain ⟨its, r', pl, hz⟩ := I.list hq
    have hlen := r'.length
    refine call_tuple_list pl.isList (fun h' kp => ?_) (by simp only [List.size_toArray] <;> omega)
    have I1 : Inv X pins σ H { s with heap := h' } := I.kept (t' := s.toks) kp
    have I2 : Inv X pins σ (upd H h'.objs.size (.tup ys)) { s with heap := h'.push { cls := .type "tuple", data := .seq its.toArray } } :=
      I1.laid (t' := s.toks) (fun b o e => Heap.get?_push_of_some _ e) (Nat.le_refl _) (show ObjOk X.prog X.w _ _ _ (.tup ys) from ⟨hz, its, r', IsTup.new _ _⟩)
    exact ⟨.ref h'.objs.size, _, I2, rfl, q _ (I1.hok.fresh (Nat.le_refl _))⟩
  · obtain ⟨its, r', pl, hz⟩ := I.tuple hq
    exact call_tuple_same pl ⟨.ref p, H, I, rfl, q⟩

/-! ### the call of a builtin's method: o.m(..) -/
/-- the value is of that builtin type -/
def tyV (K : PySem.W.Frag) (T : String) (x : V) (H : Hp) : Prop := match x with
  | .str _ => T = "str"
  | .int _ => T = "int"
  | .ref p => (T = "list" ∧ ∃ xs, SqL K H p xs) ∨ (T = "tuple" ∧ ∃ o, K.lookup p = some o ∧ o.cls = .type "tuple" ∧ o.dict = none) ∨
      (T = "dict" ∧ ((∃ kvs, H p = some (.dK kvs)) ∨ ∃ kvs, H p = some (.dT kvs))) ∨ (T = "set" ∧ ∃ S n, H p = some (.set S n))
  | _ => False
theorem tyV_is {pins : List (Addr × Obj)} {σ : St} {H : Hp} {s : Shared} {T : String} {x : V} {v : Value} (I : Inv X pins σ H s) (r : RelV x v) (ty : tyV X.K T x H) :
    s.TypeIs v T ∧ ∀ a, v = .ref a → ∃ ob, s.heap.get? a = some ob ∧ ob.dict = none := by
  cases x with
  | str z =>
    obtain ⟨t, rfl⟩ := r
    cases (show T = "str" from ty)
    exact ⟨typeIs_str s z t, fun _ e => nomatch e⟩
  | int i =>
    obtain ⟨t, rfl⟩ := r
    cases (show T = "int" from ty)
    exact ⟨typeIs_int s i t, fun _ e => nomatch e⟩
  | ref p =>
    cases r
    rcases ty with ⟨rfl, xs, hq⟩ | ⟨rfl, o, hk, hc, hd⟩ | ⟨rfl, hk⟩ | ⟨rfl, S, n, hk⟩
    · obtain ⟨its, _, pl, _⟩ := I.list hq
      refine ⟨pl.isList.typeIs, fun a e => ?_⟩
      cases e
      obtain ⟨o, n, e, c, hd, _⟩ := pl
      exact ⟨o, e, hd⟩
    · refine ⟨⟨o, I.kIn p o hk, hc⟩, fun a e => ?_⟩
      cases e
      exact ⟨o, I.kIn _ o hk, hd⟩
    · have z : ∃ o, s.heap.get? p = some o ∧ o.ExactDict := by
        rcases hk with ⟨kvs, hk⟩ | ⟨kvs, hk⟩
        · obtain ⟨_, _, _, _, o, _, _, e, ex, _⟩ := I.hok p _ hk
          exact ⟨o, e, ex⟩
        · obtain ⟨_, _, _, _, o, _, _, e, ex, _⟩ := I.hok p _ hk
          exact ⟨o, e, ex⟩
      obtain ⟨o, e, ex⟩ := z
      refine ⟨⟨o, e, ex.1⟩, fun a e2 => ?_⟩
      cases e2
      exact ⟨o, e, ex.2.1⟩
    · obtain ⟨o, _, _, _, e, ex, _⟩ := I.hok p _ hk
      refine ⟨⟨o, e, ex.1⟩, fun a e2 => ?_⟩
      cases e2
      exact ⟨o, e, ex.2.1⟩
  | _ => exact False.elim ty
def tBM0 (K : PySem.W.Frag) (T : String) (r : V → List V → Hp → VK → Prop) (to : TE) : TE := fun σ H Q => to σ H fun x H1 => tyV K T x H1 ∧ r x [] H1 Q
def tBM (K : PySem.W.Frag) (T : String) (r : V → List V → Hp → VK → Prop) (to : TE) (t : TA) : TE := fun σ H Q => to σ H fun x H1 => tyV K T x H1 ∧ t σ H1 fun xs H2 => r x xs H2 Q
variable {o e : Expr} {es : List Expr} {to : TE} {t : TA} {name : Str} {apos cpos : Pos} {T id : String} {r : V → List V → Hp → VK → Prop}
theorem pe_bm0 (pa : PlainAttrs T) (slot : Slot T name id) (hty : typeOf (.builtin id) = pure (.type "method_descriptor")) (hm : MtR X id r) (ho : PE X o to)
    (hbase : attributeBase o name X.env (eval o X.env) = eval o X.env := by rfl) (hline : (apos.endLine == cpos.line) = true := by rfl) : PE X (.Call (.Attribute o name apos) [] [] cpos) (tBM0 X.K T r to) := by
  intro pins s σ H Q I h
  refine wpAny_Call_method0_late hbase hline (thn (ho pins s σ H _ I h) fun v s1 ⟨x, H1, I1, r1, ty, q1⟩ => ?_)
  obtain ⟨h1, h2⟩ := tyV_is I1 r1 ty
  exact ⟨T, id, pa, slot, hty, h1, h2, Calls.callWith_builtin rfl (PySem.evalArgs_none (hm pins s1 σ H1 x [] v [] Q I1 r1 .nil q1))⟩
theorem pe_bm (pa : PlainAttrs T) (slot : Slot T name id) (hty : typeOf (.builtin id) = pure (.type "method_descriptor")) (hm : MtR X id r) (ho : PE X o to) (ha : PA X (e :: es) t)
    (hbase : attributeBase o name X.env (eval o X.env) = eval o X.env := by rfl)
    (hfew : ((backTo cpos (starEach (e :: es) X.env)).all (fun x => !x.1) && (backToKw cpos (keywordEach [] X.env)).all (fun x => x.1.isSome)
      && decide ((e :: es).length + ([] : List Keyword).length + (if ([] : List Keyword).isEmpty then 0 else 1) < 30)) = true := by rfl)
    (hline : (apos.endLine == cpos.line) = true := by rfl) (hs : starEach (e :: es) X.env = (false, eval e X.env) :: starEach es X.env := by rfl) (hplain : (backTo cpos (starEach es X.env)).any (·.1) = false := by rfl) :
    PE X (.Call (.Attribute o name apos) (e :: es) [] cpos) (tBM X.K T r to t) := by
  intro pins s σ H Q I h
  refine wpAny_Call_method_late hbase hfew hline rfl (thn (ho pins s σ H _ I h) fun v s1 ⟨x, H1, I1, r1, ty, q1⟩ => ?_)
  obtain ⟨h1, h2⟩ := tyV_is I1 r1 ty
  refine ⟨T, id, pa, slot, hty, h1, h2, ?_⟩
  have hA := ha cpos pins s1 σ H1 _ I1 q1
  rw [hs] at hA ⊢
  refine Calls.callWith_builtin (by show (false || (backTo cpos (starEach es X.env)).any (·.1)) = false; rw [hplain] <;> rfl) (Calls.evalArgs_plain ?_)
  exact thn hA fun us s2 ⟨vs, H2, I2, r2, q2⟩ => hm pins s2 σ H2 x vs v us Q I2 r1 r2 q2
/- xs.append(e), list.index on a module's tuple .. are MtR facts of 06m -/
end
end L2

namespace L2
open PySem PySem.Spec PyProof.Rows

def MtM (X : Cx) (id : String) (r : V → List V → Hp → VK → Prop) : Prop :=
  ∀ (pins : List (Addr × Obj)) (s : Shared) (σ : St) (H : Hp) (x : V) (xs : List V) (v : Value) (us : List Value) (Q : VK), Inv X pins σ H s → RelV x v → Vals xs us → r x xs H Q →
    wpAny (model X.prog X.w) X.A (call (.builtin id) (v :: us)) (EP X pins σ Q) X.xe s

/-! ### lists of values -/
theorem Vals.one : ∀ {x : V} {us : List Value}, Vals [x] us → ∃ u, us = [u] ∧ RelV x u
  | _, _, .cons r .nil => ⟨_, rfl, r⟩
theorem Vals.zero : ∀ {us : List Value}, Vals [] us → us = []
  | _, .nil => rfl
theorem Vals.dropLast {xs : List V} {us : List Value} (h : Vals xs us) : Vals xs.dropLast us.dropLast := by
  induction h with
  | nil => exact .nil
  | cons r t ih =>
    cases t with
    | nil => exact .nil
    | cons q t' => exact .cons r ih
theorem Vals.reverse {xs : List V} {us : List Value} (h : Vals xs us) : Vals xs.reverse us.reverse := by
  induction h with
  | nil => exact .nil
  | cons r t ih => rw [List.reverse_cons, List.reverse_cons]; exact Vals.append ih (.cons r .nil)
theorem Vals.rep {xs : List V} {us : List Value} (h : Vals xs us) : ∀ k : Nat, Vals (List.replicate k xs).flatten (List.replicate k us).flatten
  | 0 => .nil
  | k + 1 => by
    rw [List.replicate_succ, List.replicate_succ, List.flatten_cons, List.flatten_cons]
    exact Vals.append h (Vals.rep h k)
theorem erase_last {α : Type} (l : List α) : l.eraseIdx (l.length - 1) = l.dropLast := by
  induction l with
  | nil => rfl
  | cons a r ih =>
    cases r with
    | nil => rfl
    | cons b r =>
      have e : (a :: b :: r).length - 1 = ((b :: r).length - 1) + 1 := by
        have h1 : (a :: b :: r).length = r.length + 2 := rfl
        have h2 : (b :: r).length = r.length + 1 := rfl
        omega
      rw [e, List.eraseIdx_cons_succ, ih]
      all_goals rfl
theorem foldl_rep (its : List Value) : ∀ (k : Nat) (acc : List Value),
    List.foldl (fun x1 x2 => x1 ++ x2) acc.toArray (List.replicate k its.toArray) = (acc ++ (List.replicate k its).flatten).toArray
  | 0, acc => by simp
  | k + 1, acc => by
    have e : acc.toArray ++ its.toArray = (acc ++ its).toArray := by simp
    have e2 : (acc ++ its) ++ (List.replicate k its).flatten = acc ++ (List.replicate (k + 1) its).flatten := by
      rw [List.replicate_succ, List.flatten_cons, List.append_assoc]
    rw [← e2, ← foldl_rep its k (acc ++ its), ← e, List.replicate_succ, List.foldl_cons]

section
variable {X : Cx} {pins : List (Addr × Obj)} {σ : St} {H : Hp} {s : Shared} {l b : Addr} {xs ys zs : List V}

/-! ### the two steps: a tracked list is rewritten, a new list is laid -/
theorem Inv.lset {its its' : List Value} {n : Nat} {f : Array Value → Array Value} {t' : Nat} (I : Inv X pins σ H s) (hH : H l = some (.lst xs))
    (e : s.heap.get? l = some { cls := .type "list", data := .seq its.toArray n }) (hf : f its.toArray = its'.toArray) (hv : Vals ys its') (hz : ys.length ≤ sizeLine) :
    Inv X pins σ (upd H l (.lst ys)) { s with heap := s.heap.update l (Obj.mapSeq f), toks := t' } := by
  have q := PySem.IsL.update e f
  rw [hf] at q
  refine I.write (x := l) (e := l) (by rw [hH]; exact trivial) (.inl rfl) (fun b' u hb hu => (Heap.get?_update_other s.heap (Obj.mapSeq f) (Ne.symm hb)).trans hu) ⟨_, q⟩ ?_
  exact ⟨hz, its', _, hv, q⟩
theorem Inv.lnew {its : List Value} {t' : Nat} (I : Inv X pins σ H s) (hv : Vals ys its) (hz : ys.length ≤ sizeLine) :
    Inv X pins σ (upd H s.heap.objs.size (.lst ys)) { s with heap := s.heap.push { cls := .type "list", data := .seq its.toArray }, toks := t' } :=
  I.laid (fun _ _ q => Heap.get?_push_of_some _ q) (Nat.le_refl _) ⟨hz, its, 0, hv, Heap.get?_push_size _ rfl⟩
theorem Inv.fresh (I : Inv X pins σ H s) : H s.heap.objs.size = none := I.hok.fresh (Nat.le_refl _)
theorem Inv.lstM (I : Inv X pins σ H s) (hH : H l = some (.lst xs)) : xs.length ≤ sizeLine ∧ ∃ (its : List Value) (n : Nat), Vals xs its ∧ xs.length = its.length ∧ s.heap.get? l = some { cls := .type "list", data := .seq its.toArray n } := by
  obtain ⟨z, its, n, r, e⟩ := I.hok l _ hH
  exact ⟨z, its, n, r, r.length, e⟩

theorem notLongL {n : Nat} (h : n ≤ sizeLine) : Builtin.List.listTooLong n = false := by
  unfold Builtin.List.listTooLong
  exact decide_eq_false (by omega)
end

section
variable {X : Cx}

/-! ### methods -/
def rAppend : V → List V → Hp → VK → Prop := fun x vs H Q => ∃ l xs y, x = .ref l ∧ vs = [y] ∧ H l = some (.lst xs) ∧ xs.length < sizeLine ∧ Q .non (upd H l (.lst (xs ++ [y])))
theorem mt_append : MtM X "list.append" rAppend := by
  intro pins s σ H x vs v us Q I rx rv h
  obtain ⟨l, xs, y, rfl, rfl, hH, hz, q⟩ := h
  cases rx
  obtain ⟨u, rfl, ru⟩ := rv.one
  obtain ⟨z, its, n, r, hl, e⟩ := I.lstM hH
  refine call_meets F.slot_list_append ⟨_, e, rfl⟩ F.entry_list_append (F.args_list_append_2 _ _) (PySem.list_append l its.toArray n u (by rw [List.size_toArray]; omega)) ⟨e, ?_⟩
  refine ⟨.non, _, I.lset (its' := its ++ [u]) hH e (by simp) (r.append (.cons ru .nil)) ?_, rfl, q⟩
  rw [List.length_append, List.length_singleton]
  omega

def rExtend : V → List V → Hp → VK → Prop := fun x vs H Q => ∃ l b xs zs, x = .ref l ∧ vs = [.ref b] ∧ H l = some (.lst xs) ∧ H b = some (.lst zs) ∧ xs.length + zs.length ≤ sizeLine ∧ Q .non (upd H l (.lst (xs ++ zs)))

def rPop : V → List V → Hp → VK → Prop := fun x vs H Q => ∃ l xs y, x = .ref l ∧ vs = [] ∧ H l = some (.lst xs) ∧ xs[xs.length - 1]? = some y ∧ Q y (upd H l (.lst xs.dropLast))
theorem mt_pop : MtM X "list.pop" rPop := by
  intro pins s σ H x vs v us Q I rx rv h
  obtain ⟨l, xs, y, rfl, rfl, hH, hy, q⟩ := h
  cases rx
  have hus := rv.zero
  subst hus
  obtain ⟨z, its, n, r, hl, e⟩ := I.lstM hH
  obtain ⟨u, hu, ru⟩ := r.get hy
  have hy' : its.toArray[its.toArray.size - 1]? = some u := by
    show its.toArray[its.length - 1]? = some u
    rw [← Array.getElem?_toList, ← hl]
    exact hu
  refine call_meets F.slot_list_pop ⟨_, e, rfl⟩ F.entry_list_pop (F.args_list_pop_1 _) (MeetsSeq.list_pop_last l its.toArray n u hy' (by rw [List.size_toArray]; omega)) ⟨e, ?_⟩
  refine ⟨y, _, I.lset (its' := its.dropLast) hH e ?_ r.dropLast ?_, ru, q⟩
  · show its.toArray.eraseIdxIfInBounds (its.toArray.size - 1) = its.dropLast.toArray
    rw [List.size_toArray, List.eraseIdxIfInBounds_toArray, erase_last]
  · rw [List.length_dropLast]
    omega

def rPopAt : V → List V → Hp → VK → Prop := fun x vs H Q => ∃ l xs i k y, x = .ref l ∧ vs = [.int i] ∧ H l = some (.lst xs) ∧ -(2 ^ 63) ≤ i ∧ i < 2 ^ 63 ∧ seqIndex? i xs.length = some k ∧ xs[k]? = some y ∧ Q y (upd H l (.lst (xs.eraseIdx k)))

def rReverse : V → List V → Hp → VK → Prop := fun x vs H Q => ∃ l xs, x = .ref l ∧ vs = [] ∧ H l = some (.lst xs) ∧ Q .non (upd H l (.lst xs.reverse))

def rClear : V → List V → Hp → VK → Prop := fun x vs H Q => ∃ l xs, x = .ref l ∧ vs = [] ∧ H l = some (.lst xs) ∧ Q .non (upd H l (.lst []))

/-! ### list + list, list += list, list * int -/
def rCat : R2 := fun x y H Q => ∃ l b xs zs, x = .ref l ∧ y = .ref b ∧ H l = some (.lst xs) ∧ H b = some (.lst zs) ∧ xs.length + zs.length ≤ sizeLine ∧ ∀ p, H p = none → Q (.ref p) (upd H p (.lst (xs ++ zs)))
theorem op_cat : OpR X (binaryOp .Add) rCat := by
  intro pins s σ H x y v u Q I rx ry h
  obtain ⟨l, b, xs, zs, rfl, rfl, hH, hB, hz, q⟩ := h
  cases rx
  cases ry
  obtain ⟨z, its, n, r, hl, e⟩ := I.lstM hH
  obtain ⟨z2, its2, n2, r2, hl2, e2⟩ := I.lstM hB
  refine PySem.P.add_list e e2 ?_ (by rw [List.size_toArray, List.size_toArray]; omega)
  have ea : its.toArray ++ its2.toArray = (its ++ its2).toArray := by simp
  rw [ea]
  exact ⟨.ref _, _, I.lnew (t' := s.toks) (r.append r2) (by rw [List.length_append]; omega), rfl, q _ I.fresh⟩
/-- a list times an int (a negative one is nothing) -/
def rRep : R2 := fun x y H Q => ∃ l k xs, x = .ref l ∧ y = .int k ∧ H l = some (.lst xs) ∧ -(2 ^ 63) ≤ k ∧ k < 2 ^ 63 ∧ xs.length * k.toNat ≤ sizeLine ∧
  ∀ p, H p = none → Q (.ref p) (upd H p (.lst (List.replicate k.toNat xs).flatten))
theorem len_rep {α : Type} (xs : List α) (k : Nat) : (List.replicate k xs).flatten.length = k * xs.length := by
  induction k with
  | zero => simp
  | succ k ih => rw [List.replicate_succ, List.flatten_cons, List.length_append, ih, Nat.succ_mul, Nat.add_comm]

/-! ### del xs[i] -/
end

/-! ### xs[a:b] = ys -/
section
variable {prog : Program} {w : World} {A : Around} {E : Value → Shared → Prop} {s : Shared}
set_option maxRecDepth 100000 in
end

section
variable {X : Cx}
end
end L2

namespace Att
open PySem PySem.W PySem.Calls PyProof.Rows

/-! ### the script -/
theorem ints_of_wellAll {P : Params} {h : Heap} : ∀ (ns : List Int) (vs : List Value), WellAll P h vs (ns.map WData.int) → IntsAre vs ns := by
  intro ns
  induction ns with
  | nil =>
    intro vs w
    rw [List.map_nil] at w
    cases w
    exact .nil
  | cons n ns ih =>
    intro vs w
    rw [List.map_cons] at w
    cases w with
    | cons a b =>
      cases a
      exact .cons _ _ (ih _ b)

theorem script_of {l : OpenLaw} {n : Nat} (hn : l.most = some n) {P : Params} {h : Heap} {args : List WData} {vals : List Value}
    (hpre : l.row.toRowW.claim.pre args = true) (hwl : WellAll P h vals args) :
    ∃ a vs ns, vals = [Value.ref a] ∧ args = [WData.list (ns.map WData.int)] ∧ h.get? a = some { cls := .type "list", data := .seq vs.toArray } ∧ IntsAre vs ns ∧ ns.length ≤ n := by
  have hsh : WShape.hasAll [] args [.list .int] = true := (pre_splitW hpre).1
  have hc : l.pre.holds [] { args := args } = true := (pre_splitW hpre).2
  obtain ⟨d, r, rfl, h1, h2⟩ := hasAllW_cons hsh
  obtain rfl := hasAllW_nil h2
  obtain ⟨xs, rfl, h3⟩ := hasW_list h1
  obtain ⟨ns, rfl⟩ := items_int h3
  have hlen : ns.length ≤ n := by
    unfold OpenLaw.pre at hc
    have h4 : (WTm.not (.lt (.lit (.int (n : Int))) (.len (.arg 0)))).holds [] { args := [.list (ns.map .int)] } = true := by
      have h4 := (holds_andW hc).1
      rw [hn] at h4
      exact h4
    have h5 := condW_of h4 (w_not (w_lt w_lit (w_len_list (w_arg rfl))))
    rw [List.length_map] at h5
    refine Nat.le_of_not_lt fun q => ?_
    have q' : (n : Int) < ((ns.length : Nat) : Int) := by omega
    first
      | (rw [decide_eq_true q'] at h5; exact absurd h5 (by decide))
      | (simp at h5; omega)
  cases hwl with
  | cons w1 w2 =>
    cases w2
    cases w1 with
    | list ho hall => exact ⟨_, _, ns, rfl, rfl, ho, ints_of_wellAll ns _ hall, hlen⟩

theorem post_true (l : OpenLaw) (args : List WData) : l.row.toRowW.claim.post args (.bool true) args = true :=
  postW_of (r := l.row.toRowW) (X := (true == true))
    (show WShape.has [] (.bool true) .bool = true by first | rfl | decide | simp [WShape.has, WShape.arms, WShape.armsAll])
    (show (WTm.eq .res (.lit (.bool true))).value [] { args := args, res := some (.bool true), after := args } = some (.bool (true == true)) from w_eq_bool (w_res rfl) w_lit) rfl

/-! ### the attachment: holds_open's last premise (the goal 'hc' behind k_head) from a wpAny of the law's body -/

/-- the same from a codeAny of the CALL (for a layer whose function contracts speak of calls) -/
theorem attach_call {l : OpenLaw} {n : Nat} {q : Program} {loose : List Str} {XP : (Str → Option Value) → Heap → Prop} {YP : World → Heap → Prop} {d : DefRec}
    (hn : l.most = some n) (hdf : d.params.defaults = [])
    (call : ∀ (w : World) (s₀ s₁ : Shared) (mg mb : Str → Option Value) (fa : Addr) (o : Obj) (pm cd doc : Value) (a : Addr) (vs : List Value) (ns : List Int),
      Ground q loose [] XP w s₀ mg mb s₁.heap → YP w s₁.heap →
      s₁.heap.get? fa = some o → o.data = .func (docDef d.name d.params d.body d.scope pm cd doc) → s₁.heap.CodeRec cd d.name → mg d.name = some (.ref fa) →
      s₁.heap.get? a = some { cls := .type "list", data := .seq vs.toArray } → IntsAre vs ns → ns.length ≤ n → s₁.gens = #[] →
      codeAny (model l.prog w) callerA (.call (.ref fa) ⟨[.ref a], []⟩) (fun r s' => r = .ok (.ret (.bool true)) ∧ OldK s₁.heap s'.heap ∧ s'.os = s₁.os ∧ AllBare s'.gens) s₁) :
    WalkO q loose XP YP l.row.toRowW d [] (fun f vs => PySem.call f vs) := by
  intro w s₀ s₁ mg mb G Y fa o pm cd doc dV kV ho hd hcd hD hmg hg args vals as hpre hlay hrd hwl hlo
  obtain rfl : dV = .none := Dflts.none hD hdf
  obtain rfl : kV = .none := Dflts.noKw hD
  obtain ⟨a, vs, ns, rfl, rfl, hobj, hints, hlen⟩ := script_of hn hpre hwl
  refine enter_call (codeAny_mono (call w s₀ s₁ mg mb fa o pm cd doc a vs ns G Y ho (fd_plain hd) hcd hmg hobj hints hlen hg) fun r s' hq => ?_)
  obtain ⟨rfl, h2, h3, h4⟩ := hq
  exact ⟨.inl ⟨.bool true, .bool true, [], rfl, fun _ => rfl, .bool true, post_true l _, fun _ => ⟨List.Pairwise.nil, fun _ hm => (nomatch hm)⟩⟩, h2, h3, h4⟩


/-! ### rules over ANY heap (no ledger) from facts about the written part K: the library's own take a ledger (News) for what they write -/
section
variable {prog : Program} {w : World} {A : Around} {E : Value → Shared → Prop} {s : Shared} {K : Frag}





/-! the whole heap as the ledger: makes every rule that writes through a ledger a rule over any heap -/
def noObjs (h : Heap) : Heap := { h with objs := #[] }
def ledger (h : Heap) (L d : Addr) : List (Addr × Obj) := (List.range h.objs.size).filterMap fun a => if a = L ∨ a = d then none else (h.get? a).map fun o => (a, o)

end
end Att

namespace L2
open PySem PySem.Spec PyProof.Rows

theorem vals_ints : ∀ {vs : List Value} {ns : List Int}, IntsAre vs ns → Vals (ns.map V.int) vs
  | _, _, .nil => .nil
  | _, _, .cons n t h => .cons ⟨t, rfl⟩ (vals_ints h)

/-- nothing is tracked but the script, known to the object (or it is an object of the module) -/
def Only (H : Hp) : Prop := ∀ b, H b = none ∨ ∃ o xs, H b = some (.frz o (.lst xs))

/-- THE HEAD: the law's promise, at the heap behind the top. F, the promise of the law's def, may use that base is part of the heap (so K.In base, base.Ns mainGlobals mg stand in Mod) -/
theorem law_call {P : Program} {w : World} {K : PySem.W.Frag} {mg mb : Str → Option Value} {CX : CXT} {k : Nat} {fa a : Addr} {fd : FuncData} {x : Str} {sp : Sp} {s₁ : Shared} {vs : List Value} {ns : List Int}
    (KX : K.In s₁.heap) (hns : s₁.heap.Ns mainGlobals mg) (hb : s₁.heap.Ns builtinsNs mb) (hbb : ∀ x : Str, x ≠ "__name__" → mb x = bootBuiltins x) (hlim : s₁.heap.NoLimit) (hg : s₁.gens = #[])
    (ha : s₁.heap.get? a = some { cls := .type "list", data := .seq vs.toArray }) (hi : IntsAre vs ns) (hl : ns.length ≤ sizeLine) (hr : Room k callerA)
    (F : ∀ base : Heap, K.In base → base.Ns mainGlobals mg → FnOk P w K mg base CX k fa fd [x] sp) (hbind : ∀ (s : Shared) (u : Value), BindsTo s fd ⟨[u], []⟩ [(x, u)])
    (hsp : ∀ H : Hp, Only H → SqL K H a (ns.map V.int) → sp [.ref a] H (fun v _ => v = .bl true) fun _ _ _ => False)
    (hCX : ∀ H e s', CX [] H s₁ (fun _ _ _ => False) e s' → False) :
    codeAny (model P w) callerA (.call (.ref fa) ⟨[.ref a], []⟩) (fun r s' => r = .ok (.ret (.bool true)) ∧ OldK s₁.heap s'.heap ∧ s'.os = s₁.os ∧ AllBare s'.gens) s₁ := by
  have rv := vals_ints hi
  have lenV := hi.length
  -- from an abstract heap in which nothing but the script may be tracked
  have core : ∀ H : Hp, Only H → SqL K H a (ns.map V.int) → HOk P w H s₁.heap → (∀ b, H b ≠ none → b = a) → (H a ≠ none → K.lookup a = none) →
      codeAny (model P w) callerA (.call (.ref fa) ⟨[.ref a], []⟩) (fun r s' => r = .ok (.ret (.bool true)) ∧ OldK s₁.heap s'.heap ∧ s'.os = s₁.os ∧ AllBare s'.gens) s₁ := by
    intro H hO hS hok hA hK
    have base_of : ∀ {b : Addr} {o : Obj}, s₁.heap.get? b = some o → H b = none → (hidT s₁.heap H).get? b = some o := fun e n => hidT_get e n
    have noA : ∀ {b : Addr} {o : Obj} {es : Array DictEntry} {ep : Nat}, s₁.heap.get? b = some o → o.data = .dict es ep → H b = none := fun {b o es ep} e d => by
      cases q : H b with
      | none => rfl
      | some u =>
        have e' : b = a := hA b (by rw [q]; simp)
        subst e'
        rw [ha] at e; cases e
        have d' : Data.seq vs.toArray _ = Data.dict es ep := d
        cases d'
    have nsK : ∀ {b : Addr} {m : Str → Option Value}, s₁.heap.Ns b m → (hidT s₁.heap H).Ns b m := fun {b m} ⟨o, es, ep, e, d, r⟩ => ⟨o, es, ep, base_of e (noA e d), d, r⟩
    have hKb : K.In (hidT s₁.heap H) := fun b o e => base_of (KX b o e) (by
      cases q : H b with
      | none => rfl
      | some u =>
        have e' : b = a := hA b (by rw [q]; simp)
        subst e'
        rw [hK (by rw [q]; simp)] at e; cases e)
    have hM : Mod K mg (hidT s₁.heap H) := ⟨hKb, nsK hns, ⟨mb, nsK hb, hbb⟩, let ⟨mc, h1, h2⟩ := hlim; ⟨mc, nsK h1, h2⟩⟩
    have e0 : Env0 P w K mg (hidT s₁.heap H) callerA [] s₁ H := ⟨rfl, hM, fun b o e => of_hidT e, Nat.le_of_eq (hidT_size _ _), trivial, fun b hb => absurd (show b ∈ ([] : List Addr) from hb) (by simp), hok, .of_eq hg⟩
    refine codeAny_mono ((F _ hKb (nsK hns)).run callerA [] s₁ H ⟨[.ref a], []⟩ [.ref a] [.ref a] _ _ hr e0 (hbind s₁ (.ref a)) (.cons rfl .nil) (hsp H hO hS)) fun r s' h => ?_
    cases r with
    | error e => exact (hCX H e s' h).elim
    | ok fl =>
      cases fl with
      | next => exact False.elim h
      | brk => exact False.elim h
      | cont => exact False.elim h
      | ret u =>
        obtain ⟨v, H', os, bare, un, hok', r', q⟩ := h
        have q' : v = .bl true := q
        subst q'
        obtain rfl : u = Value.bool true := r'
        refine ⟨rfl, OldK.of_keep fun b o e => ?_, os, bare⟩
        cases q : H b with
        | none => exact un.keep b o e q (by intro z; exact absurd (show b ∈ ([] : List Addr) from z) (by simp)) (by simp)
        | some u =>
          rcases hO b with z | ⟨ob, xs, z⟩
          · rw [q] at z; cases z
          · have z2 := un.frzs b ob _ z
            obtain ⟨e1, _⟩ := hok b _ z
            obtain ⟨e2, _⟩ := hok' b _ z2
            rw [e] at e1; cases e1
            exact e2
  cases hk : K.lookup a with
  | some o =>
    -- the script is one of the module's own objects
    have e := KX a o hk
    rw [ha] at e
    cases e
    refine core (fun _ => none) (fun _ => .inl rfl) (.inr ⟨_, vs.toArray, _, hk, rfl, rfl, rfl, by rw [List.size_toArray, lenV]; exact hl, by simpa using rv⟩) (fun b u z => by have z' : (none : Option HO) = some u := z; cases z') (fun b z => absurd rfl z) fun z => absurd rfl z
  | none =>
    refine core (fun b => if b = a then some (.frz { cls := .type "list", data := .seq vs.toArray } (.lst (ns.map V.int))) else none) (fun b => ?_) (.inl (.inr ⟨{ cls := .type "list", data := .seq vs.toArray }, if_pos rfl⟩)) (fun b u z => ?_) (fun b z => ?_) fun _ => hk
    · by_cases hb : b = a
      · exact .inr ⟨_, _, if_pos hb⟩
      · exact .inl (if_neg hb)
    · by_cases hb : b = a
      · have z' := (if_pos hb).symm.trans z
        cases z'
        subst hb
        exact ⟨ha, by rw [List.length_map]; exact hl, vs, _, rv, ha⟩
      · have z' := (if_neg hb).symm.trans z
        cases z'
    · by_cases hb : b = a
      · exact hb
      · exact absurd (if_neg hb) z
end L2

namespace L2
open PySem PySem.Spec PyProof.Rows

abbrev KOf {K : PySem.W.Frag} {h : Heap} (_ : K.In h) : PySem.W.Frag := K

/-- the goal that k_head leaves (case hc), from the law's promise. F gives the function object fd (K's own) once, then the promise over every base -/
theorem walk_of {l : PySem.W.OpenLaw} {n k : Nat} {q : Program} {loose : List Str} {XP : (Str → Option Value) → Heap → Prop} {YP : World → Heap → Prop} {d : DefRec} {K : Params → PySem.W.Frag} {CX : World → CXT} {sp : World → Sp} {x : Str}
    (hn : l.most = some n) (hn2 : n ≤ sizeLine) (hdf : d.params.defaults = []) (hr : Room k callerA)
    (hY : ∀ (w : World) (h : Heap), YP w h → (K w.params).In h)
    (F : ∀ (w : World) (mg : Str → Option Value) (fa : Addr) (h : Heap), (K w.params).In h → h.Ns mainGlobals mg → mg d.name = some (.ref fa) →
      ∃ fd : FuncData, (∀ (s : Shared) (u : Value), BindsTo s fd ⟨[u], []⟩ [(x, u)]) ∧
        ∀ base : Heap, (K w.params).In base → base.Ns mainGlobals mg → FnOk l.prog w (K w.params) mg base (CX w) k fa fd [x] (sp w))
    (hsp : ∀ (w : World) (H : Hp) (a : Addr) (ns : List Int), ns.length ≤ n → Only H → SqL (K w.params) H a (ns.map V.int) → sp w [.ref a] H (fun v _ => v = .bl true) fun _ _ _ => False)
    (hCX : ∀ (w : World) (H : Hp) (s : Shared) (e : Value) (s' : Shared), CX w [] H s (fun _ _ _ => False) e s' → False) :
    PySem.W.WalkO q loose XP YP l.row.toRowW d [] (fun f vs => PySem.call f vs) := by
  refine Att.attach_call hn hdf fun w s₀ s₁ mg mb fa o pm cd doc a vs ns G Y ho hd hcd hmg hobj hints hlen hg => ?_
  have KX := hY w _ Y
  obtain ⟨fd, hb, hF⟩ := F w mg fa _ KX G.T.g hmg
  exact law_call KX G.T.g G.T.b G.T.builtins G.T.nolimit hg hobj hints (Nat.le_trans hlen hn2) hr hF hb (fun H hO hS => hsp w H a ns hlen hO hS) fun H e s' => hCX w H s₁ e s'
end L2

/- THE LAST THEOREM (shape; LID, My.* are yours):
   My.Adr: a structure of the addresses that your layer names (classes, functions); My.Txt K t: a structure (Prop) of the equations over K;
   My.txt_mk : {K} {implicit addresses ..} (e1 : nsIn K mainGlobals "law" = some (some (.ref f))) (e2 : K.lookup f = some ⟨oc, od, .func (fnOf "law" "law" params body scope dV kV doc pm an cdv ct), sl⟩) (e3 : codeIn K cdv "law" = true) .. : ∃ t, My.Txt K t

set_option maxRecDepth 100000 in
set_option maxHeartbeats 0 in
theorem PySem.Challenge.cw_LID_holds : PySem.Challenge.rw_LID.Holds := by
  w_on; o_law; k_head; (case hw => w_witness2)
  k_fill
  refine L2.walk_of (l := PySem.Challenge.rw_LID) (n := 63) (k := 40) (x := "script") (CX := fun w => ..) (sp := fun _ => My.sp_law) rfl (by decide) rfl ⟨rfl, by decide, by decide⟩ (fun w h Y => PySem.W.kIn_of Y) ?F ?S ?C
  case F =>
    intro w mg fa h KX G hmg
    have T : ∃ t, My.Txt (L2.KOf KX) t := by
      dsimp only [L2.KOf]                          -- K must stand as «<heap const> w.params» for k_is
      refine' My.txt_mk ?e1 ?e2 ?e3 ..
      (case e1 => PySem.W.k_is)                    -- in the order: a name -> its address -> its object -> its parts
      (case e2 => PySem.W.k_is)
      ..
    obtain ⟨t, T⟩ := T
    have e0 := hmg.symm.trans (PySem.W.mg_of KX G T.law)
    cases e0                                       -- fa is the law's own address
    exact ⟨_, fun s u => .of_eq rfl, fun base kb nb => My.law_fn T kb nb⟩     -- if «.of_eq rfl» comes too early: refine' ⟨_, ?b, fun base kb nb => My.law_fn T kb nb⟩; exact fun s u => .of_eq rfl
  case S => exact fun w H a ns hl hO hS => ..
  case C => exact ..
(the tactic k_is has no namespace: write k_is) -/

/-! SHORT WORDS over the layer: a def of the text, its body, what a loop and a test want. -/
namespace L2
open PySem PySem.Spec PyProof.Rows

/-! ### the text by places -/
/-- the j-th statement of a class's body -/
def inClass (s : Stmt) (j : Nat) : Stmt := match s with
  | .ClassDef _ _ _ body _ _ _ _ _ _ _ => body.getD j (.Pass ⟨0, 0, 0, 0⟩)
  | _ => .Pass ⟨0, 0, 0, 0⟩
def defArgs (s : Stmt) : Arguments := match s with
  | .FunctionDef _ a _ _ _ _ _ _ _ _ => a
  | _ => { posonlyargs := [], args := [], vararg := none, kwonlyargs := [], kw_defaults := [], kwarg := none, defaults := [] }
def defBody (s : Stmt) : List Stmt := match s with
  | .FunctionDef _ _ b _ _ _ _ _ _ _ => b
  | _ => []
def defScope (s : Stmt) : Scope := match s with
  | .FunctionDef _ _ _ _ _ _ sc _ _ _ => sc
  | _ => { kind := .function, names := [], isGenerator := false, isCoroutine := false }

/-! ### no exception leaves a def -/
abbrev CX0 : CXT := fun _ _ _ _ _ _ => False
abbrev E0 : XK := fun _ _ _ => False
theorem pass0 {X : Cx} : Passes CX0 X E0 := fun _ _ _ _ _ _ _ h => h.elim

/-! ### a def (or method) of the text as it stands behind the top -/
structure Fun (K : PySem.W.Frag) (x qual : Str) (st : Stmt) (f : Addr) (fd : FuncData) : Prop where
  ex : ∃ (oc : Value) (od : Option Addr) (kV doc pm : Value) (an : Option Addr) (cdv ct : Value) (osl : Array (Option Value)),
    fd = PySem.W.fnOf x qual (defArgs st) (defBody st) (defScope st) .none kV doc pm an cdv ct ∧ K.lookup f = some ⟨oc, od, .func fd, osl⟩ ∧ PySem.W.codeIn K cdv qual = true
  kp : PySem.W.keepIn K (.ref f) = true
section
variable {P : Program} {w : World} {K : PySem.W.Frag} {mg : Str → Option Value} {base : Heap}
/-- THE RULE for a def: its body as a term of rules, and the reading of that term -/
theorem Fun.ok {x qual : Str} {st : Stmt} {f : Addr} {fd : FuncData} {N ps : List Str} {k : Nat} {sp : Sp} (F : Fun K x qual st f fd) (S : FnScope N ps (defScope st)) (len : ∀ vs H Q E, sp vs H Q E → vs.length = ps.length)
    (hbody : ∀ (cdv : Value) (A : Around) (outer : List Env) (s : Shared) (H : Hp) (vs : List V) (Q : VK) (E : XK), Room k (A.deeper (envOfC qual (defScope st) s.heap.objs.size f cdv)) → sp vs H Q E →
      ∃ t, PSs (cxOf CX0 P w K mg base N qual (defScope st) f cdv A outer s H E).nox (defBody st) t ∧ t { nx := fun _ H' => Q .non H', rt := Q } (start N vs) H) : FnOk P w K mg base CX0 (k + 1) f fd ps sp := by
  obtain ⟨oc, od, kV, doc, pm, an, cdv, ct, osl, rfl, lk, hcd⟩ := F.ex
  refine fn_of lk hcd S len fun A outer s H vs Q E hr hsp => ?_
  obtain ⟨t, h, q⟩ := hbody cdv A outer s H vs Q E hr hsp
  exact ⟨t, h.nox, q⟩
/-- how its arguments bind (no defaults): h is «fun _ _ _ _ _ _ us hl => match us, hl with | [_, _], _ => rfl», one _ a parameter -/
theorem Fun.binds {x qual : Str} {st : Stmt} {f : Addr} {fd : FuncData} {ps : List Str} (F : Fun K x qual st f fd)
    (h : ∀ (kV doc pm : Value) (an : Option Addr) (cdv ct : Value) (us : List Value), us.length = ps.length → bindArgs (PySem.W.fnOf x qual (defArgs st) (defBody st) (defScope st) .none kV doc pm an cdv ct) ⟨us, []⟩ = pure (ps.zip us)) : Binds K fd ps [] := by
  obtain ⟨oc, od, kV, doc, pm, an, cdv, ct, osl, rfl, lk, hcd⟩ := F.ex
  exact .all (h kV doc pm an cdv ct)
theorem fun_mk {x qual : Str} {st : Stmt} {f : Addr} {oc : Value} {od an : Option Addr} {osl : Array (Option Value)} {kV doc pm cdv ct : Value} (l : K.lookup f = some ⟨oc, od, .func (PySem.W.fnOf x qual (defArgs st) (defBody st) (defScope st) .none kV doc pm an cdv ct), osl⟩)
    (c : PySem.W.codeIn K cdv qual = true) (k : PySem.W.keepIn K (.ref f) = true) : Fun K x qual st f (PySem.W.fnOf x qual (defArgs st) (defBody st) (defScope st) .none kV doc pm an cdv ct) := ⟨⟨oc, od, kV, doc, pm, an, cdv, ct, osl, rfl, l, c⟩, k⟩
end
theorem small1000 {n : Nat} (h : n ≤ 1000) : n < sizeLine := Nat.lt_of_le_of_lt h (by decide)

/-! ### expressions in short: the name that stands in the i-th slot -/
section
variable {X : Cx}
theorem pv (i : Nat) {x : Str} {pos : Pos} (hN : X.N[i]? = some x := by rfl) (hv : Vis X.env.scope x := by first | exact Or.inl rfl | exact Or.inr (Or.inl rfl) | exact Or.inr (Or.inr rfl)) (hd : (x == ("__debug__" : Str)) = false := by decide)
    (hcd : (x == ("__classdict__" : Str)) = false := by decide) : PE X (.Name x pos) (tVar i) := pe_var hN hv hd hcd
end

/-! ### tests -/
theorem iteF {A B : Prop} (h : B) : if false = true then A else B := by
  rw [if_neg Bool.false_ne_true]
  exact h
theorem iteT {A B : Prop} (h : A) : if true = true then A else B := by
  rw [if_pos rfl]
  exact h
theorem ite2 {c A B : Prop} [Decidable c] (h1 : c → A) (h2 : ¬ c → B) : if c then A else B := by
  by_cases h : c
  · rw [if_pos h]
    exact h1 h
  · rw [if_neg h]
    exact h2 h

/-! ### heaps -/
/-- all that was tracked is as it was -/
def Same (H H' : Hp) : Prop := ∀ b o, H b = some o → H' b = some o
theorem Same.refl (H : Hp) : Same H H := fun _ _ h => h
theorem Same.trans {H H1 H2 : Hp} (a : Same H H1) (b : Same H1 H2) : Same H H2 := fun c o h => b c o (a c o h)
theorem Same.free {H H' : Hp} (e : Same H H') {l : Addr} (h : H' l = Option.none) : H l = Option.none := by
  cases q : H l with
  | none => rfl
  | some o =>
    rw [e l o q] at h
    cases h
theorem Same.seq {K : PySem.W.Frag} {H H' : Hp} {a : Addr} {xs : List V} (e : Same H H') (h : SqL K H a xs) : SqL K H' a xs := by
  rcases h with (h | ⟨o, h⟩) | h
  · exact .inl (.inl (e _ _ h))
  · exact .inl (.inr ⟨o, e _ _ h⟩)
  · exact .inr h

end L2


set_option Elab.async false
set_option maxRecDepth 100000
set_option maxHeartbeats 4000000
/-! A list built by a comprehension: one clause, tests or none, names of the def around it. -/
namespace L2
open PySem PySem.Spec PyProof.Rows

section
variable {prog : Program} {w : World} {A : Around} {R : Result → Shared → Prop} {s : Shared}
/-- the walk through a block, no exception on the way -/
theorem lcLoop {elt tg iter : Expr} {ifs : List Expr} {sc : Scope} {pos : Pos} {it acc : Value} {env : Env} (J : Nat → Shared → Prop)
    (turn : ∀ n s, J n s → wpAny (model prog w) A (pyNext it) (fun r s1 => match r with
      | none => R (.ok .next) s1
      | some v => wpAny (model prog w) A (letOwnedTupleGo tg it v) (fun _ s2 => wpAny (model prog w) A (assign tg env v) (fun _ s3 =>
          wpAny (model prog w) A (forIn ifs true fun c r => if r = true then do let ok ← isTrue c env (eval c env); pure (ForInStep.yield ok) else pure (ForInStep.yield r)) (fun ok s4 =>
            if ok = true then wpAny (model prog w) A (eval elt env) (fun y s5 => wpAny (model prog w) A (call (.builtin "list.append") [acc, y]) (fun _ s6 => ∃ m, m < n ∧ J m s6) (fun _ _ => False) s5) (fun _ _ => False) s4
            else ∃ m, m < n ∧ J m s4) (fun _ _ => False) s3) (fun _ _ => False) s2) (fun _ _ => False) s1) (fun _ _ => False) s)
    (n : Nat) (h : J n s) : codeAny (model prog w) A (.compLoop (.ListComp elt [⟨tg, iter, ifs, 0⟩] sc pos) 0 it acc env) R s := by
  refine codeAny_loop rfl J (fun n s hJ => ?_) n h
  show wpAny _ A ((compTurn (.ListComp elt [⟨tg, iter, ifs, 0⟩] sc pos) 0 it acc env).onRaise (fun x => do noteFrame x env; theTreesLotGoes x)) _ _ s
  refine wpAny_noted ?_
  rw [compTurn_list]
  refine wpAny_bind (wpAny_standAt (wpAny_bind (wpAny_mono (turn n s hJ) (fun r s1 h1 => ?_) fun _ _ f => f.elim)))
  cases r with
  | none => exact wpAny_pure h1
  | some v =>
    refine wpAny_bind (wpAny_mono h1 (fun _ s2 h2 => ?_) fun _ _ f => f.elim)
    refine wpAny_bind (wpAny_mono h2 (fun _ s3 h3 => wpAny_bind (wpAny_mono h3 (fun ok s4 h4 => ?_) fun _ _ f => f.elim)) fun _ _ f => f.elim)
    cases ok with
    | false => exact wpAny_pure ⟨rfl, h4⟩
    | true =>
      exact wpAny_bind (wpAny_bind (wpAny_mono h4 (fun y s5 h5 => wpAny_bind (wpAny_mono h5 (fun _ s6 h6 => wpAny_pure (wpAny_pure ⟨rfl, h6⟩)) fun _ _ f => f.elim)) fun _ _ f => f.elim))
end

/-- the context of a block: entered at s, H, the iterator's objects at fp -/
def cxC (X : Cx) (N : List Str) (sc : Scope) (cl : List (Str × Addr)) (C : Addr) (s : Shared) (H : Hp) (fp : List Addr) : Cx where
  prog := X.prog
  w := X.w
  K := X.K
  mg := X.mg
  base := X.base
  A := X.A
  N := N
  s₀ := s
  H₀ := H
  env := compEnvC sc cl C X.env
  outer := X.stack
  stack := X.stack
  ex := fp
  fn := fun _ => false
  calm := X.calm
  pn := []
  xe := fun _ _ => False

/-- the values of the names outside that the block closes over -/
def pick (σ : St) (fr : List Nat) : St := fr.map fun i => (σ[i]?).getD none

/-- what must be so of the block's names: ns its own, ys those of the def around it (at the places fr there), cl their cells -/
structure CScope (X : Cx) (ns ys : List Str) (fr : List Nat) (sc : Scope) (cl : List (Str × Addr)) : Prop where
  clos : closureFor sc X.env = pure cl
  kind : sc.kind = .function
  nocell : ∀ y ∈ sc.names, y.2 ≠ .cell
  locs : ∀ y ∈ sc.names, y.2 = .local → sc.names.lookup y.1 = some .local
  sub : ∀ p ∈ cl, X.env.cells.lookup p.1 = some p.2
  has : ∀ y, ((relabel sc X.env).names.lookup y = some .cell ∨ (relabel sc X.env).names.lookup y = some .free) → ∃ c, cl.lookup y = some c
  len : fr.length = ys.length
  outs : ∀ (j : Nat) (y : Str), ys[j]? = some y → ∃ i : Nat, fr[j]? = some i ∧ X.N[i]? = some y ∧ (X.env.kindOf y = some .cell ∨ X.env.kindOf y = some .free) ∧
    ((relabel sc X.env).names.lookup y = some .cell ∨ (relabel sc X.env).names.lookup y = some .free)

theorem look_mem {α : Type} : ∀ {l : List (Str × α)} {x : Str} {c : α}, l.lookup x = some c → (x, c) ∈ l
  | [], _, _, h => by cases h
  | (y, d) :: r, x, c, h => by
    rw [List.lookup_cons] at h
    cases q : x == y with
    | true =>
      rw [q] at h
      have e1 : x = y := eq_of_beq q
      have e2 : d = c := Option.some.inj h
      rw [e1, e2]
      exact List.mem_cons_self
    | false =>
      rw [q] at h
      exact List.mem_cons_of_mem _ (look_mem h)

/-- the tests of a block -/
def PTs (X : Cx) (ifs : List Expr) (t : TT) : Prop :=
  ∀ (pins : List (Addr × Obj)) (s : Shared) (σ : St) (H : Hp) (Q : Bool → Hp → Prop), Inv X pins σ H s → t σ H Q →
    wpAny (model X.prog X.w) X.A (forIn ifs true fun c r => if r = true then do let ok ← isTrue c X.env (eval c X.env); pure (ForInStep.yield ok) else pure (ForInStep.yield r)) (TP X pins σ Q) X.xe s
def tYes : TT := fun _ H Q => Q true H
theorem pts_nil {X : Cx} : PTs X [] tYes := fun _ _ _ H _ I h => wpAny_tests_nil ⟨H, I, h⟩
theorem pts_one {X : Cx} {c : Expr} {t : TT} (h : PT X c t) : PTs X [c] t := fun pins s σ H Q I q => wpAny_tests_one (h pins s σ H Q I q)

/-- the reading: at turn i, with the list ys made so far standing at D -/
def Turns (k : Nat) (fr : List Nat) (g : TG) (tt : TT) (te : TE) (σ : St) (D : Addr) (ys : List V) (N : List V → Hp → Prop) (x : V) (H : Hp) : Prop :=
  g x (List.replicate k none ++ pick σ fr) H fun σ4 H4 => (∃ ts, σ4 = ts ++ pick σ fr ∧ ts.length = k) ∧ tt σ4 H4 fun b H5 => if b = true then te σ4 H5 fun y H6 => H6 D = some (.lst ys) ∧ N (ys ++ [y]) (upd H6 D (.lst (ys ++ [y]))) else N ys H5
def Comps (k : Nat) (fr : List Nat) (g : TG) (tt : TT) (te : TE) (σ : St) (Q : VK) (J : It) (H : Hp) (D : Addr) : Prop := ∃ W : Nat → Nat → List V → Hp → Prop, (∃ m, W 0 m [] (upd H D (.lst []))) ∧
  ∀ i m ys H2, W i m ys H2 → H2 D = some (.lst ys) ∧ ((J.stop i H2 ∧ Q (.ref D) H2) ∨ (J.go i H2 ∧ ys.length < sizeLine ∧ ∃ N : List V → Hp → Prop, (∀ ys' H', N ys' H' → ∃ m', m' < m ∧ W (i + 1) m' ys' H') ∧
    ∀ x H3, J.yld i H2 x H3 → Turns k fr g tt te σ D ys N x H3))
def tComp (k : Nat) (fr : List Nat) (wi : TI) (g : TG) (tt : TT) (te : TE) : TE := fun σ H Q => wi σ H fun J H1 => ∀ D, H1 D = none → Comps k fr g tt te σ Q J H1 D

section
variable {X : Cx} {pins : List (Addr × Obj)} {σ : St} {H H' : Hp} {s s' : Shared} {ns ys : List Str} {fr : List Nat} {sc : Scope} {cl : List (Str × Addr)} {C : Addr} {fp : List Addr}

theorem cxC_ok (I : Inv X pins σ H s) (S : CScope X ns ys fr sc cl) (hf : ∀ b ∈ fp, FpOk X pins H b) (hl : ∀ b ∈ fp, b < s.heap.objs.size) (hC : s.heap.objs.size ≤ C) : (cxC X (ns ++ ys) sc cl C s H fp).Ok where
  mod := I.ok.mod
  kind := S.kind
  glob := I.ok.glob
  blt := I.ok.blt
  above := hC
  inj := fun x y c e1 e2 => I.ok.inj x y c (S.sub _ (look_mem e1)) (S.sub _ (look_mem e2))
  has := fun x h => S.has x h
  cab := fun x c h => nomatch h
  hd := fun h => I.ok.hd h
  frames := I.ok.frames
  stk := .inl rfl
  exf := fun b hb => ⟨Nat.ne_of_lt (Nat.lt_of_lt_of_le (hl b hb) hC), fun x c e => (hf b hb).2.2.2.2.1 x c (S.sub _ (look_mem e))⟩
  bs := I.bs
  bsz := Nat.le_trans I.ok.bsz I.sz
  noex := fun b o e hb => by
    rcases (hf b hb).2.2.2.1 with z | z
    · exact I.ok.noex b o e z
    · exact absurd (Nat.lt_of_lt_of_le (Heap.lt_size e) (Nat.le_trans I.ok.bsz z)) (Nat.lt_irrefl _)
  exfs := fun b hb hs => by
    rcases List.mem_cons.mp (I.stkSub b hs) with z | z
    · exact (hf b hb).2.1 z
    · exact (hf b hb).2.2.1 z
  funs := I.stack
  frf := I.stkFree

/-- the block is entered: its list at the heap's end, its frame behind that -/
theorem cxC_start {h' : Heap} {t' : Nat} {n : Nat} {m : Str → Option Value} (I : Inv X pins σ H s) (S : CScope X ns ys fr sc cl) (hf : ∀ b ∈ fp, FpOk X pins H b) (hl : ∀ b ∈ fp, b < s.heap.objs.size) (hC : s.heap.objs.size < C)
    (k : ∀ b o, s.heap.get? b = some o → h'.get? b = some o) (hD : h'.get? s.heap.objs.size = some { cls := .type "list", data := .seq ([] : List Value).toArray n }) (hn : h'.Ns C m) :
    Inv (cxC X (ns ++ ys) sc cl C s H fp) [] (List.replicate ns.length none ++ pick σ fr) (upd H s.heap.objs.size (.lst [])) { s with heap := h', toks := t' } := by
  have fD : H s.heap.objs.size = none := I.hok.fresh (Nat.le_refl _)
  have fC : H C = none := I.hok.fresh (Nat.le_of_lt hC)
  have cLt : ∀ x c, cl.lookup x = some c → c < s.heap.objs.size := fun x c e => by
    obtain ⟨v, q⟩ := I.cell x c (S.sub _ (look_mem e))
    exact q.lt
  refine ⟨cxC_ok I S hf hl (Nat.le_of_lt hC), rfl, I.bare, Un.laid k (Nat.le_refl _) fD, ⟨m, hn, fun i y v e1 e2 e3 => ?_⟩, fun x c e => ?_, ?_, fun x c e => ?_, fun p hp => (nomatch hp), ?_, ?_⟩
  · have e1 : (ns ++ ys)[i]? = some y := e1
    by_cases hi : i < ns.length
    · rw [List.getElem?_append_left (by simpa using hi), List.getElem?_replicate, if_pos hi] at e2
      cases e2
    · have hi' : ns.length ≤ i := Nat.le_of_not_lt hi
      rw [List.getElem?_append_right hi'] at e1
      rw [List.getElem?_append_right (by simpa using hi'), List.length_replicate] at e2
      obtain ⟨i', f1, f2, f3, f4⟩ := S.outs _ y e1
      unfold pick at e2
      rw [List.getElem?_map, f1] at e2
      have e2' : (σ[i']?).getD none = some v := Option.some.inj e2
      have e4 : σ[i']? = some (some v) := by
        cases q : σ[i']? with
        | none => rw [q] at e2'; cases e2'
        | some o =>
          rw [q] at e2'
          have e5 : o = some v := e2'
          rw [e5]
      obtain ⟨m0, hn0, hl0⟩ := I.loc
      obtain ⟨u, r, lk⟩ := hl0 i' y v f2 e4 (f3.elim (fun z => .inr (.inl z)) fun z => .inr (.inr z))
      refine ⟨u, r, .inr ⟨f4, ?_⟩⟩
      rcases lk with ⟨z, _⟩ | ⟨_, c, ec, hc⟩
      · rcases f3 with z' | z' <;> (rw [z] at z'; cases z')
      · obtain ⟨c', ec'⟩ := S.has y f4
        have ee := S.sub _ (look_mem ec')
        rw [ec] at ee
        have ecc : c = c' := Option.some.inj ee
        subst ecc
        exact ⟨c, ec', hc.keeps k⟩
  · obtain ⟨v, q⟩ := I.cell x c (S.sub _ (look_mem e))
    exact ⟨v, q.keeps k⟩
  · show upd H s.heap.objs.size (.lst []) C = none
    rw [upd_ne (Nat.ne_of_gt hC)]
    exact fC
  · rw [upd_ne (Nat.ne_of_lt (cLt x c e))]
    exact I.freeC x c (S.sub _ (look_mem e))
  · exact I.hok.laid k (Nat.le_refl _) ⟨Nat.zero_le _, [], n, .nil, hD⟩
  · show (List.replicate ns.length none ++ pick σ fr).length = (ns ++ ys).length
    rw [List.length_append, List.length_append, List.length_replicate]
    unfold pick
    rw [List.length_map, S.len]

/-- the block is left: its frame's names let go -/
theorem cxC_back {σ' : St} {h' : Heap} (I : Inv X pins σ H s) (hf : ∀ b ∈ fp, FpOk X pins H b) (hC : s.heap.objs.size ≤ C) (I' : Inv (cxC X (ns ++ ys) sc cl C s H fp) [] σ' H' s') (hs : Heap.SameBut C s'.heap h') :
    Inv X pins σ H' { s' with heap := h' } := by
  have U : Un (frs X.stack) fp H H' s.heap s'.heap := I'.base
  have ne : ∀ b o, s.heap.get? b = some o → b ≠ C := fun b o e => Nat.ne_of_lt (Nat.lt_of_lt_of_le (Heap.lt_size e) hC)
  refine I.call' (s' := { s' with heap := h' }) (ch := fp) I'.os ⟨fun b o e n hb hx => ?_, fun b o e n hb hx => ?_, U.free, fun b o e hx => ?_, U.tups, U.frzs, U.tbls⟩ (fun b u e => ?_) I'.bare fun b hb => ?_
  · exact (hs.2 b (ne b o e)).trans (U.keep b o e n hb hx)
  · obtain ⟨sl, q⟩ := U.slot b o e n hb hx
    exact ⟨sl, (hs.2 b (ne b o e)).trans q⟩
  · obtain ⟨o', q⟩ := U.there b o e hx
    exact ⟨o', (hs.2 b (ne b o e)).trans q⟩
  · have fr' : H' C = none := I'.free
    refine (I'.hok b u e).stay (fun c v hc q => (hs.2 c ?_).trans q) (fun _ q => q) fun _ _ q => q
    intro z
    rcases hc with z' | z'
    · rw [← z', z, fr'] at e
      cases e
    · rw [z, fr'] at z'
      cases z'
  · obtain ⟨f0, f1, f2, f3, f4, f5⟩ := hf b hb
    exact ⟨f3, f1, f4, f5⟩
end

theorem pe_comp {X : Cx} {elt iter tg : Expr} {ifs : List Expr} {sc : Scope} {pos : Pos} {ns ys : List Str} {fr : List Nat} {cl : List (Str × Addr)} {wi : TI} {g : TG} {tt : TT} {te : TE} (S : CScope X ns ys fr sc cl) (hc : X.calm = true)
    (hi : PI X tg iter wi) (hg : ∀ C s H fp, PG (cxC X (ns ++ ys) sc cl C s H fp) tg g) (ht : ∀ C s H fp, PTs (cxC X (ns ++ ys) sc cl C s H fp) ifs tt) (he : ∀ C s H fp, PE (cxC X (ns ++ ys) sc cl C s H fp) elt te)
    (hs : ∀ x, foldedSetIterable iter X.env x = pure x := by intro _; rfl) : PE X (.ListComp elt [⟨tg, iter, ifs, 0⟩] sc pos) (tComp ns.length fr wi g tt te) := by
  intro pins s σ H Q I h
  rw [eval_ListComp]
  refine wpAny_comprehension_free (use := none) rfl hs S.clos S.kind S.locs (thn (hi pins s σ H _ I h) fun v s1 h1 => thn h1 fun itv s2 h2 => ?_)
  obtain ⟨it, fp, tn, J, H2, e, I2, T, st2, f2, rest⟩ := h2
  subst e
  obtain ⟨W, ⟨m0, w0⟩, turn⟩ := rest s2.heap.objs.size (I2.hok.fresh (Nat.le_refl _))
  refine wpAny_newObj_type (wpAny_newFunctionEnv S.nocell (by intro y hy; simp at hy) (fun h3 hn3 hb3 => ?_) S.kind)
  dsimp only at hn3 hb3 ⊢
  generalize hG : s2.heap.push { cls := .type "list", dict := none, data := .seq ([] : List Value).toArray } = G at hn3 hb3 ⊢
  have zG : G.objs.size = s2.heap.objs.size + 1 := by rw [← hG, Heap.size_push]
  have ltC : s2.heap.objs.size < G.objs.size := by rw [zG]; exact Nat.lt_succ_self _
  have old : ∀ b o, s2.heap.get? b = some o → h3.get? b = some o := fun b o e =>
    hb3.extBut b o (Nat.ne_of_lt (Nat.lt_trans (Heap.lt_size e) ltC)) (Heap.get?_push_of_some _ (hG ▸ Heap.get?_push_of_some _ e))
  have hD := hb3.extBut _ _ (Nat.ne_of_lt ltC) (Heap.get?_push_of_some _ (hG ▸ Heap.get?_push_size _ rfl))
  have below : ∀ b ∈ fp, b < s2.heap.objs.size := fun b hb => by
    obtain ⟨o, eo, _⟩ := T.obj _ _ st2 b hb
    exact Heap.lt_size eo
  have I3 := cxC_start (ns := ns) (ys := ys) (fr := fr) (t' := s2.toks + ([] : List (Str × Value)).length) I2 S f2 below ltC old hD hn3
  have stat : ∀ {H' : Hp}, (∀ b ∈ fp, H' b = none) → ∀ b ∈ fp, FpOk (cxC X (ns ++ ys) sc cl G.objs.size s2 H2 fp) [] H' b := fun hn b hb =>
    ⟨hn b hb, Nat.ne_of_lt (Nat.lt_trans (below b hb) ltC), I3.ok.exfs b hb, .inl hb, fun x c e => (I3.ok.exf b hb).2 x c e, fun p hp => nomatch hp⟩
  have st3 : tn 0 h3 := T.keep _ _ _ st2 fun b _ o e => old b o e
  have fr3 : ∀ b ∈ fp, upd H2 s2.heap.objs.size (.lst []) b = none := fun b hb => by
    rw [upd_ne (Nat.ne_of_lt (below b hb))]
    exact (f2 b hb).1
  have loop : ∀ s3 : Shared, s3 = { s2 with heap := h3, toks := s2.toks + ([] : List (Str × Value)).length } →
      codeAny (model X.prog X.w) X.A (.compLoop (.ListComp elt [⟨tg, iter, ifs, 0⟩] sc pos) 0 (.ref it) (.ref s2.heap.objs.size) (compEnvC sc cl G.objs.size X.env))
        (compPost (model X.prog X.w) X.A X.xe none (EP X pins σ Q) (.ref s2.heap.objs.size) G.objs.size) s3 := by
    rintro s3 rfl
    refine lcLoop (fun n s' => ∃ i zs H', Inv (cxC X (ns ++ ys) sc cl G.objs.size s2 H2 fp) [] (List.replicate ns.length none ++ pick σ fr) H' s' ∧ tn i s'.heap ∧ (∀ b ∈ fp, H' b = none) ∧ W i n zs H') ?_ m0 ⟨0, [], _, I3, st3, fr3, w0⟩
    rintro n s5 ⟨i, zs, H5, I5, st5, fr5, w5⟩
    obtain ⟨d5, alt⟩ := turn i n zs H5 w5
    rcases alt with ⟨stop, q⟩ | ⟨go, hz, N, hN, step⟩
    · refine thn (T.done (cxC X (ns ++ ys) sc cl G.objs.size s2 H2 fp) rfl rfl rfl hc i [] s5 _ H5 _ I5 (stat fr5) st5 stop) fun r s6 ⟨hr, I6⟩ => ?_
      subst hr
      obtain ⟨m6, hn6, _⟩ := I6.loc
      exact ⟨m6, hn6, fun h7 hs7 => ⟨.ref s2.heap.objs.size, H5, cxC_back I2 f2 (Nat.le_of_lt ltC) I6 hs7, rfl, q⟩⟩
    · refine thn (T.item (cxC X (ns ++ ys) sc cl G.objs.size s2 H2 fp) rfl rfl rfl hc i [] s5 _ H5 _ I5 (stat fr5) st5 go) fun r s6 ⟨u, hr, h6⟩ => ?_
      subst hr
      refine thn h6 fun _ s7 ⟨x, H7, I7, r7, y7, st7, fr7⟩ => ?_
      have I7' := I7.pinned (stat fr7) (T.obj _ _ st7)
      refine thn (hg _ _ _ _ _ s7 _ H7 x u _ I7' r7 (step x H7 y7)) fun _ s8 ⟨σ8, H8, I8, ⟨ts, eσ, lts⟩, q8⟩ => ?_
      have again : ∀ {H9 : Hp} {s9 : Shared} {zs' : List V} {m' : Nat}, m' < n → Inv (cxC X (ns ++ ys) sc cl G.objs.size s2 H2 fp) ([] ++ pinsAt fp s7.heap) σ8 H9 s9 → W (i + 1) m' zs' H9 →
          ∃ m, m < n ∧ ∃ i zs H', Inv (cxC X (ns ++ ys) sc cl G.objs.size s2 H2 fp) [] (List.replicate ns.length none ++ pick σ fr) H' s9 ∧ tn i s9.heap ∧ (∀ b ∈ fp, H' b = none) ∧ W i m zs H' := fun {H9 s9 zs' m'} hm I9 w9 => by
        refine ⟨m', hm, i + 1, zs', H9, I9.unpinned.weak ?_ ?_, T.keep _ _ _ st7 fun b hb o e => (I9.pin (b, o) (List.mem_append_right _ (List.mem_append_right _ (mem_pinsAt hb e)))).1, fun b hb => ?_, w9⟩
        · rw [eσ, List.length_append, List.length_append, List.length_replicate, lts]
        · intro j v e
          rw [eσ]
          by_cases hj : j < ns.length
          · rw [List.getElem?_append_left (by simpa using hj), List.getElem?_replicate, if_pos hj] at e
            cases e
          · have hj' : ns.length ≤ j := Nat.le_of_not_lt hj
            rw [List.getElem?_append_right (by simpa using hj'), List.length_replicate] at e
            rw [List.getElem?_append_right (by rw [lts]; exact hj'), lts]
            exact e
        · obtain ⟨o, e, d⟩ := T.obj _ _ st7 b hb
          exact (I9.pin (b, o) (List.mem_append_right _ (List.mem_append_right _ (mem_pinsAt hb e)))).2.1
      refine thn (ht _ _ _ _ _ s8 σ8 H8 _ I8 q8) fun ok s9 ⟨H9, I9, q9⟩ => ?_
      cases ok with
      | false =>
        rw [if_neg Bool.false_ne_true] at q9 ⊢
        obtain ⟨m', hm, w9⟩ := hN _ _ q9
        exact again hm I9 w9
      | true =>
        rw [if_pos rfl] at q9 ⊢
        refine thn (he _ _ _ _ _ s9 σ8 H9 _ I9 q9) fun yv s10 ⟨y, H10, I10, r10, d10, w10⟩ => ?_
        refine thn (mt_append _ s10 σ8 H10 (.ref s2.heap.objs.size) [y] (.ref s2.heap.objs.size) [yv] (fun _ H11 => N (zs ++ [y]) H11) I10 rfl (.cons r10 .nil) ⟨_, zs, y, rfl, rfl, d10, hz, w10⟩) fun _ s11 ⟨_, H11, I11, _, w11⟩ => ?_
        obtain ⟨m', hm, w12⟩ := hN _ _ w11
        exact again hm I11 w12
  exact codeAny_compStart_list (loop _ rfl) (T.self X.A 0 _ _ _ st3 (loop _ rfl))

/-! ### the forms one uses -/
section
variable {k : Nat} {fr : List Nat} {g : TG} {tt : TT} {te : TE} {σ : St} {Q : VK} {D : Addr} {H : Hp}
theorem comp_range {lo : Int} {n : Nat} (Pv : Nat → List V → Hp → Prop) (h0 : Pv 0 [] (upd H D (.lst []))) (hd : ∀ i ys H, Pv i ys H → H D = some (.lst ys))
    (hs : ∀ i ys H, i < n → Pv i ys H → ys.length < sizeLine ∧ Turns k fr g tt te σ D ys (Pv (i + 1)) (.int (lo + i)) H) (he : ∀ ys H, Pv n ys H → Q (.ref D) H) : Comps k fr g tt te σ Q (Itr lo n) H D := by
  refine ⟨fun i m ys H => i + m = n ∧ Pv i ys H, ⟨n, by omega, h0⟩, ?_⟩
  rintro i m ys H2 ⟨e, p⟩
  refine ⟨hd i ys H2 p, ?_⟩
  by_cases hi : i < n
  · obtain ⟨z, q⟩ := hs i ys H2 hi p
    refine .inr ⟨hi, z, Pv (i + 1), fun ys' H' p' => ⟨m - 1, by omega, by omega, p'⟩, ?_⟩
    rintro x H3 ⟨rfl, rfl⟩
    exact q
  · have e' : i = n := by omega
    subst e'
    exact .inl ⟨Nat.le_refl _, he ys H2 p⟩
theorem comp_list {K : PySem.W.Frag} {a : Addr} {xs : List V} (Pv : Nat → List V → Hp → Prop) (h0 : Pv 0 [] (upd H D (.lst []))) (hd : ∀ i ys H, Pv i ys H → H D = some (.lst ys)) (hl : ∀ i ys H, i ≤ xs.length → Pv i ys H → SqL K H a xs)
    (hs : ∀ i x ys H, xs[i]? = some x → Pv i ys H → ys.length < sizeLine ∧ Turns k fr g tt te σ D ys (Pv (i + 1)) x H) (he : ∀ ys H, Pv xs.length ys H → Q (.ref D) H) : Comps k fr g tt te σ Q (Itl K a) H D := by
  refine ⟨fun i m ys H => i + m = xs.length ∧ Pv i ys H, ⟨xs.length, by omega, h0⟩, ?_⟩
  rintro i m ys H2 ⟨e, p⟩
  have sq := hl i ys H2 (by omega) p
  refine ⟨hd i ys H2 p, ?_⟩
  by_cases hi : i < xs.length
  · have hx : xs[i]? = some xs[i] := List.getElem?_eq_getElem hi
    obtain ⟨z, q⟩ := hs i _ ys H2 hx p
    refine .inr ⟨⟨xs, _, sq, hx⟩, z, Pv (i + 1), fun ys' H' p' => ⟨m - 1, by omega, by omega, p'⟩, ?_⟩
    rintro x H3 ⟨rfl, hy⟩
    have e2 := hy xs sq
    rw [hx] at e2
    cases e2
    exact q
  · have e' : i = xs.length := by omega
    subst e'
    exact .inl ⟨⟨xs, sq, Nat.le_refl _⟩, he ys H2 p⟩
theorem comp_tup {K : PySem.W.Frag} {a : Addr} {xs : List V} (Pv : Nat → List V → Hp → Prop) (h0 : Pv 0 [] (upd H D (.lst []))) (hd : ∀ i ys H, Pv i ys H → H D = some (.lst ys)) (hl : ∀ i ys H, i ≤ xs.length → Pv i ys H → SqT K H a xs)
    (hs : ∀ i x ys H, xs[i]? = some x → Pv i ys H → ys.length < sizeLine ∧ Turns k fr g tt te σ D ys (Pv (i + 1)) x H) (he : ∀ ys H, Pv xs.length ys H → Q (.ref D) H) : Comps k fr g tt te σ Q (Itt K a) H D := by
  refine ⟨fun i m ys H => i + m = xs.length ∧ Pv i ys H, ⟨xs.length, by omega, h0⟩, ?_⟩
  rintro i m ys H2 ⟨e, p⟩
  have sq := hl i ys H2 (by omega) p
  refine ⟨hd i ys H2 p, ?_⟩
  by_cases hi : i < xs.length
  · have hx : xs[i]? = some xs[i] := List.getElem?_eq_getElem hi
    obtain ⟨z, q⟩ := hs i _ ys H2 hx p
    refine .inr ⟨⟨xs, _, sq, hx⟩, z, Pv (i + 1), fun ys' H' p' => ⟨m - 1, by omega, by omega, p'⟩, ?_⟩
    rintro x H3 ⟨rfl, hy⟩
    have e2 := hy xs sq
    rw [hx] at e2
    cases e2
    exact q
  · have e' : i = xs.length := by omega
    subst e'
    exact .inl ⟨⟨xs, sq, Nat.le_refl _⟩, he ys H2 p⟩
end
end L2


set_option Elab.async false
set_option maxRecDepth 100000
set_option maxHeartbeats 4000000
/-! More rules: isinstance, an empty tuple in front of +, tuples by >=, a text cut, zip of two tuples, the same data by ==. -/
namespace L2
open PySem PySem.Spec PyProof.Rows

section
variable {X : Cx} {pins : List (Addr × Obj)} {σ : St} {H : Hp} {s : Shared} {h' : Heap}
/-- an object of ours that nobody tracked is tracked from now on -/
theorem Inv.track {a : Addr} {o : HO} (I : Inv X pins σ H s) (f : FpOk X pins H a) (h1 : X.s₀.heap.objs.size ≤ a) (new : ObjOk X.prog X.w (upd H a o) s.heap a o) : Inv X pins σ (upd H a o) s := by
  obtain ⟨f0, f1, f2, f3, f4, f5⟩ := f
  have old : ∀ b u, H b = some u → upd H a o b = some u := fun b u e => by
    rw [upd_ne (ne_of_none e f0)]
    exact e
  refine ⟨I.ok, I.os, I.bare, ⟨I.base.keep, I.base.slot, fun b ob e n hx => ?_, I.base.there, fun b xs e => old _ _ (I.base.tups b xs e), fun b ob u e => old _ _ (I.base.frzs b ob u e), fun b ps e => ?_⟩, I.loc, I.cell, ?_, fun x c e => ?_, fun p hp => ?_, fun b u e => ?_, I.len⟩
  · rw [upd_ne (Nat.ne_of_lt (Nat.lt_of_lt_of_le (Heap.lt_size e) h1))]
    exact I.base.free b ob e n hx
  · obtain ⟨more, q⟩ := I.base.tbls b ps e
    exact ⟨more, old _ _ q⟩
  · rw [upd_ne (Ne.symm f1)]
    exact I.free
  · rw [upd_ne (f4 x c e)]
    exact I.freeC x c e
  · obtain ⟨p1, p2, p3⟩ := I.pin p hp
    refine ⟨p1, ?_, p3⟩
    rw [upd_ne (f5 p hp)]
    exact p2
  · by_cases q : b = a
    · subst q
      rw [upd_same] at e
      cases e
      exact new
    · rw [upd_ne q] at e
      exact (I.hok b u e).stay (fun _ _ _ z => z) (fun c z => old _ _ z) fun c xs z => old _ _ z
/-- untracked records of ours (an iterator's) have turned -/
theorem Inv.turnedAll {t' : Nat} {ch : List Addr} (I : Inv X pins σ H s) (hf : ∀ b ∈ ch, FpOk X pins H b) (k : ∀ b o, b ∉ ch → s.heap.get? b = some o → h'.get? b = some o) : Inv X pins σ H { s with heap := h', toks := t' } := by
  have nc : ∀ b u, H b = some u → b ∉ ch := fun b u e z => by
    rw [(hf b z).1] at e
    cases e
  refine I.step (g' := s.gens) (d' := s.drawn) (ch := ch) (fun b hb => ?_) (fun b o _ _ hc e _ => k b o hc e) (fun b o _ _ hc e _ => ⟨o.slots, k b o hc e⟩) (fun _ _ _ _ n => n) (fun b o hc e => ⟨o, k b o hc e⟩)
    (fun _ _ e => e) (fun _ _ _ e => e) (fun b ps e => ⟨#[], by rw [e]; simp⟩) (fun m hm => ?_) (fun b u e => ?_) I.bare
  · obtain ⟨f0, f1, f2, f3, f4, f5⟩ := hf b hb
    exact ⟨f3, f1, f4, f5⟩
  · obtain ⟨o, es, ep, ho, r⟩ := hm
    exact ⟨o, es, ep, k _ o (fun z => (hf _ z).2.1 rfl) ho, r⟩
  · refine (I.hok b u e).stay (fun c v hc q => k c v ?_ q) (fun _ q => q) fun _ _ q => q
    rcases hc with z | z
    · rw [z]; exact nc b u e
    · exact nc c _ z
end

/-! ### isinstance of one class -/
section
variable {X : Cx}
def rIsi (K : PySem.W.Frag) : List V → Hp → VK → Prop := fun xs H Q => ∃ x t n b, xs = [x, .ty n] ∧ TyOf K H x t ∧ PySem.W.kitOne K t (.type n) = some b ∧ Q (.bl b) H

/-! ### () + t -/
def rCatT0 (K : PySem.W.Frag) : R2 := fun x y H Q => ∃ a b ys, x = .ref a ∧ y = .ref b ∧ SqT K H a [] ∧ SqT K H b ys ∧ Q (.ref b) H
theorem op_catT0 : OpR X (binaryOp .Add) (rCatT0 X.K) := by
  intro pins s σ H x y v u Q I rx ry h
  obtain ⟨a, b, ys, rfl, rfl, ha, hb, q⟩ := h
  cases rx
  cases ry
  obtain ⟨its, r1, p1, _⟩ := I.tuple ha
  obtain ⟨its2, r2, p2, _⟩ := I.tuple hb
  cases r1
  obtain ⟨⟨c1, d1, t1, l1⟩, g1, k1, n1, z1⟩ := id p1
  obtain ⟨⟨c2, d2, t2, l2⟩, g2, k2, n2, z2⟩ := id p2
  simp only at k1 z1 k2 z2
  subst k1 z1 k2 z2
  exact concat_meets ⟨_, g1, rfl⟩ ⟨_, g2, rfl⟩ noFill_tuple_add seq_tuple_add PySem.F.slot_tuple_add PySem.F.entry_tuple_add (PySem.F.args_tuple_add_2 _ _)
    (tuple_addW0 a b #[] its2.toArray n1 n2 d1 d2 l1 l2 rfl) ⟨g1, g2, ⟨.ref b, H, I, rfl, q⟩⟩
/-- t + u for any t -/
theorem op_catTT : OpR X (binaryOp .Add) (fun x y H Q => rCatT X.K x y H Q ∨ rCatT0 X.K x y H Q) := op_catT.or op_catT0

/-! ### a text cut: x[lo:hi] -/
def rSlS : V → Option Int → Option Int → Hp → VK → Prop := fun x lo hi H Q => ∃ z, x = .str z ∧ z.length ≤ sizeLine ∧ Q (.str (Txt.slice z lo hi)) H
theorem sl_str : SlR X rSlS := by
  intro pins s σ H x v vl vu lo hi sl Q I rx hs pl pu h
  obtain ⟨z, rfl, hz, q⟩ := h
  obtain ⟨t, rfl⟩ := rx
  obtain ⟨o, ho, hc, hd⟩ := hs
  refine ⟨"str", _, F.slot_str_getitem.lookup, typeIs_str _ _ _, ?_⟩
  have fin : ∀ t' k, EP X pins σ Q (.str (Txt.slice z lo hi) t') { s with toks := k } := fun t' k => ⟨.str (Txt.slice z lo hi), H, I.tok k, ⟨t', rfl⟩, q⟩
  cases pl with
  | none =>
    cases pu with
    | none => exact wpAny_getItem_str_slice (l := none) (u := none) (st := none) ⟨o, ho, hc, hd⟩ rfl (post_val_or_str ⟨Nat.le_trans (Txt.slice_le z _ _) hz, fin⟩)
    | int j uj => exact wpAny_getItem_str_slice (l := none) (u := some (j, uj)) (st := none) ⟨o, ho, hc, hd⟩ rfl (post_val_or_str ⟨Nat.le_trans (Txt.slice_le z _ _) hz, fin⟩)
  | int i ui =>
    cases pu with
    | none => exact wpAny_getItem_str_slice (l := some (i, ui)) (u := none) (st := none) ⟨o, ho, hc, hd⟩ rfl (post_val_or_str ⟨Nat.le_trans (Txt.slice_le z _ _) hz, fin⟩)
    | int j uj => exact wpAny_getItem_str_slice (l := some (i, ui)) (u := some (j, uj)) (st := none) ⟨o, ho, hc, hd⟩ rfl (post_val_or_str ⟨Nat.le_trans (Txt.slice_le z _ _) hz, fin⟩)
end
end L2

/-! ### tuples of ints by >= -/
namespace HT
open PySem PyProof.Rows
section
open PySem.SeqAt
open PySem.AutoSeq1 (wpAny_loadPart')
open PySem.MeetsSeq PySem.MeetsSeq2 PySem.MeetsSeq3
end
end HT

namespace L2
open PySem PySem.Spec PyProof.Rows
section
variable {X : Cx}
def rGeT (K : PySem.W.Frag) : R2 := fun x y H Q => ∃ a b ns ms, x = .ref a ∧ y = .ref b ∧ SqT K H a (ns.map V.int) ∧ SqT K H b (ms.map V.int) ∧ Q (.bl (!HT.lexLt ns ms)) H
end

/-! ### == of two things that hold the same data -/
inductive Da where
  | flat (v : V)
  | tup (xs : List Da)
  | lst (xs : List Da)

mutual
/-- the value x holds the data d -/
inductive Hold (K : PySem.W.Frag) (H : Hp) : V → Da → Prop where
  | flat {v : V} : flatV v = true → Hold K H v (.flat v)
  | tup {a : Addr} {xs : List V} {ds : List Da} : SqT K H a xs → Holds K H xs ds → Hold K H (.ref a) (.tup ds)
  | lst {a : Addr} {xs : List V} {ds : List Da} : SqL K H a xs → Holds K H xs ds → Hold K H (.ref a) (.lst ds)
inductive Holds (K : PySem.W.Frag) (H : Hp) : List V → List Da → Prop where
  | nil : Holds K H [] []
  | cons {x : V} {xs : List V} {d : Da} {ds : List Da} : Hold K H x d → Holds K H xs ds → Holds K H (x :: xs) (d :: ds)
end

mutual
def Da.dep : Da → Nat
  | .flat _ => 0
  | .tup xs => depL xs + 1
  | .lst xs => depL xs + 1
def depL : List Da → Nat
  | [] => 0
  | d :: r => max d.dep (depL r)
end
theorem dep_mem : ∀ {ds : List Da} {d : Da}, d ∈ ds → d.dep ≤ depL ds
  | e :: r, d, h => by
    rw [depL]
    rcases List.mem_cons.mp h with rfl | h
    · exact Nat.le_max_left _ _
    · exact Nat.le_trans (dep_mem h) (Nat.le_max_right _ _)
theorem Holds.length {K : PySem.W.Frag} {H : Hp} : ∀ {xs : List V} {ds : List Da}, Holds K H xs ds → xs.length = ds.length
  | [], _, h => by cases h; rfl
  | _ :: _, _, h => by
    cases h with
    | cons _ r => rw [List.length_cons, List.length_cons, r.length]
theorem Holds.get {K : PySem.W.Frag} {H : Hp} : ∀ {xs : List V} {ds : List Da} {j : Nat} {x : V}, Holds K H xs ds → xs[j]? = some x → ∃ d, ds[j]? = some d ∧ Hold K H x d
  | [], _, _, _, _, e => by cases e
  | z :: zs, _, 0, x, h, e => by
    cases h with
    | cons hx _ =>
      have e' : z = x := by simpa using e
      subst e'
      exact ⟨_, rfl, hx⟩
  | z :: zs, _, j + 1, x, h, e => by
    cases h with
    | cons _ r =>
      obtain ⟨d, h1, h2⟩ := r.get (j := j) (x := x) (by simpa using e)
      exact ⟨d, by simpa using h1, h2⟩
theorem eqV_self {v : V} (h : flatV v = true) : eqV v v = true := by
  cases v with
  | non => rfl
  | bl b => exact beq_self_eq_true b
  | int i => exact beq_self_eq_true i
  | str z => exact beq_self_eq_true z
  | byt _ => cases h
  | flt _ => cases h
  | ref _ => cases h
  | ty _ => cases h

section
open PySem.SeqAt
variable {X : Cx} {pins : List (Addr × Obj)} {σ : St} {H : Hp} {s : Shared} {A : Around}
theorem same_items {xs ys : List V} {ds : List Da} {its its2 : List Value} (h1 : Holds X.K H xs ds) (h2 : Holds X.K H ys ds) (r1 : Vals xs its) (r2 : Vals ys its2)
    (el : ∀ d ∈ ds, ∀ (x y : V) (u v : Value), Hold X.K H x d → Hold X.K H y d → RelV x u → RelV y v → EqAt A s u v true) :
    ∀ j (q1 : j < its.toArray.size) (q2 : j < its2.toArray.size), EqAt A s its.toArray[j] its2.toArray[j] true := by
  intro j q1 q2
  have l1 := r1.length
  have l2 := r2.length
  have j1 : j < xs.length := by rw [l1]; simpa using q1
  have j2 : j < ys.length := by rw [l2]; simpa using q2
  obtain ⟨d, e1, k1⟩ := h1.get (List.getElem?_eq_getElem j1)
  obtain ⟨d', e2, k2⟩ := h2.get (List.getElem?_eq_getElem j2)
  rw [e1] at e2
  cases e2
  obtain ⟨u, f1, ru⟩ := r1.get (List.getElem?_eq_getElem j1)
  obtain ⟨v, f2, rv⟩ := r2.get (List.getElem?_eq_getElem j2)
  have g1 : its.toArray[j] = u := by
    have z : its[j]? = some its.toArray[j] := by simp [List.getElem?_eq_getElem (by simpa using q1 : j < its.length)]
    rw [f1] at z
    exact (Option.some.inj z).symm
  have g2 : its2.toArray[j] = v := by
    have z : its2[j]? = some its2.toArray[j] := by simp [List.getElem?_eq_getElem (by simpa using q2 : j < its2.length)]
    rw [f2] at z
    exact (Option.some.inj z).symm
  rw [g1, g2]
  exact el d (List.mem_of_getElem? e1) _ _ _ _ k1 k2 ru rv
theorem rc_tups (I : Inv X pins σ H s) {a b : Addr} {xs ys : List V} {ds : List Da} (ha : SqT X.K H a xs) (hb : SqT X.K H b ys) (h1 : Holds X.K H xs ds) (h2 : Holds X.K H ys ds) (hu : A.units < cLine)
    (el : ∀ d ∈ ds, ∀ (x y : V) (u v : Value), Hold X.K H x d → Hold X.K H y d → RelV x u → RelV y v → EqAt A.in1 s u v true) : RcAt A s (.ref a) (.ref b) true := by
  obtain ⟨its, r1, p1, _⟩ := I.tuple ha
  obtain ⟨its2, r2, p2, _⟩ := I.tuple hb
  have q := RcAt.tuples (s := s) (e := fun _ => true) (show s.heap.IsTuple a its.toArray from p1) (show s.heap.IsTuple b its2.toArray from p2) hu (same_items h1 h2 r1 r2 el)
  have e : its.toArray.size = its2.toArray.size := by
    rw [List.size_toArray, List.size_toArray, ← r1.length, ← r2.length, h1.length, h2.length]
  rw [e, List.all_eq_true.mpr (fun _ _ => rfl)] at q
  simpa using q
theorem rc_lsts (I : Inv X pins σ H s) {a b : Addr} {xs ys : List V} {ds : List Da} (ha : SqL X.K H a xs) (hb : SqL X.K H b ys) (h1 : Holds X.K H xs ds) (h2 : Holds X.K H ys ds) (hu : A.units < cLine)
    (el : ∀ d ∈ ds, ∀ (x y : V) (u v : Value), Hold X.K H x d → Hold X.K H y d → RelV x u → RelV y v → EqAt A.in1 s u v true) : RcAt A s (.ref a) (.ref b) true := by
  obtain ⟨its, r1, p1, _⟩ := I.list ha
  obtain ⟨its2, r2, p2, _⟩ := I.list hb
  have e : its.toArray.size = its2.toArray.size := by
    rw [List.size_toArray, List.size_toArray, ← r1.length, ← r2.length, h1.length, h2.length]
  have q := RcAt.lists (s := s) (e := fun _ => true) p1.isList p2.isList e hu (same_items h1 h2 r1 r2 el)
  rw [List.all_eq_true.mpr (fun _ _ => rfl)] at q
  exact q
theorem eq_same (I : Inv X pins σ H s) : ∀ (n : Nat) {d : Da} {x y : V} {u v : Value} {A : Around}, d.dep ≤ n → A.units + n < cLine → Hold X.K H x d → Hold X.K H y d → RelV x u → RelV y v → EqAt A s u v true
  | n, .flat w, x, y, u, v, A, _, _, hx, hy, rx, ry => by
    cases hx with
    | flat f =>
      cases hy
      have q := eqAt_V (A := A) (s := s) rx ry f f
      rw [eqV_self f] at q
      exact q
  | 0, .tup ds, _, _, _, _, _, h, _, _, _, _, _ => by rw [Da.dep] at h; omega
  | 0, .lst ds, _, _, _, _, _, h, _, _, _, _, _ => by rw [Da.dep] at h; omega
  | n + 1, .tup ds, x, y, u, v, A, h, hu, hx, hy, rx, ry => by
    rw [Da.dep] at h
    cases hx with
    | @tup a xs _ ha h1 =>
      cases hy with
      | @tup b ys _ hb h2 =>
        cases (show u = Value.ref a from rx)
        cases (show v = Value.ref b from ry)
        by_cases hab : a = b
        · rw [hab]
          exact EqAt.same _
        · refine EqAt.of_refs hab (rc_tups I ha hb h1 h2 (by omega) fun d hd x y u v kx ky qx qy => ?_)
          exact eq_same I n (Nat.le_trans (dep_mem hd) (by omega)) (by rw [PyProof.Rows.units_in1]; omega) kx ky qx qy
  | n + 1, .lst ds, x, y, u, v, A, h, hu, hx, hy, rx, ry => by
    rw [Da.dep] at h
    cases hx with
    | @lst a xs _ ha h1 =>
      cases hy with
      | @lst b ys _ hb h2 =>
        cases (show u = Value.ref a from rx)
        cases (show v = Value.ref b from ry)
        by_cases hab : a = b
        · rw [hab]
          exact EqAt.same _
        · refine EqAt.of_refs hab (rc_lsts I ha hb h1 h2 (by omega) fun d hd x y u v kx ky qx qy => ?_)
          exact eq_same I n (Nat.le_trans (dep_mem hd) (by omega)) (by rw [PyProof.Rows.units_in1]; omega) kx ky qx qy
/-- x == y, two tuples or two lists that hold the same data -/
def rEqS (K : PySem.W.Frag) : R2 := fun x y H Q => ∃ a b d, x = .ref a ∧ y = .ref b ∧ Hold K H x d ∧ Hold K H y d ∧ d.dep ≤ 60 ∧ Q (.bl true) H
theorem op_eqS (hu : X.A.units + 64 < cLine) : OpR X (compareOp .Eq) (rEqS X.K) := by
  intro pins s σ H x y v u Q I rx ry h
  obtain ⟨a, b, d, rfl, rfl, hx, hy, hd, q⟩ := h
  cases rx
  cases ry
  have fin : EP X pins σ Q (.bool true) s := ⟨.bl true, H, I, rfl, q⟩
  cases hx with
  | flat f => cases f
  | @tup _ xs ds ha h1 =>
    cases hy with
    | @tup _ ys _ hb h2 =>
      rw [Da.dep] at hd
      exact rc_tups I ha hb h1 h2 (by omega) (fun d hm x y u v kx ky qx qy => eq_same I 60 (Nat.le_trans (dep_mem hm) (by omega)) (by rw [PyProof.Rows.units_in1]; omega) kx ky qx qy) _ _ _ _ fin
  | @lst _ xs ds ha h1 =>
    cases hy with
    | @lst _ ys _ hb h2 =>
      rw [Da.dep] at hd
      exact rc_lsts I ha hb h1 h2 (by omega) (fun d hm x y u v kx ky qx qy => eq_same I 60 (Nat.le_trans (dep_mem hm) (by omega)) (by rw [PyProof.Rows.units_in1]; omega) kx ky qx qy) _ _ _ _ fin
end

/-! ### data, handed on -/
section
variable {K : PySem.W.Frag} {H H' : Hp}
theorem SqT.same {a : Addr} {xs : List V} (h : SqT K H a xs) (e : Same H H') : SqT K H' a xs := by
  rcases h with (h | ⟨o, h⟩) | h
  · exact .inl (.inl (e _ _ h))
  · exact .inl (.inr ⟨o, e _ _ h⟩)
  · exact .inr h
mutual
theorem Hold.mono (e : Same H H') : ∀ {x : V} {d : Da}, Hold K H x d → Hold K H' x d
  | _, _, .flat f => .flat f
  | _, _, .tup h r => .tup (h.same e) (Holds.mono e r)
  | _, _, .lst h r => .lst (e.seq h) (Holds.mono e r)
theorem Holds.mono (e : Same H H') : ∀ {xs : List V} {ds : List Da}, Holds K H xs ds → Holds K H' xs ds
  | _, _, .nil => .nil
  | _, _, .cons h r => .cons (Hold.mono e h) (Holds.mono e r)
end
theorem Holds.append : ∀ {xs ys : List V} {ds es : List Da}, Holds K H xs ds → Holds K H ys es → Holds K H (xs ++ ys) (ds ++ es)
  | [], _, _, _, h, k => by cases h; exact k
  | _ :: _, _, _, _, h, k => by
    cases h with
    | cons a r => exact .cons a (r.append k)
theorem Holds.one {x : V} {d : Da} (h : Hold K H x d) : Holds K H [x] [d] := .cons h .nil
theorem Hold.tupI {x : V} {ds : List Da} (h : Hold K H x (.tup ds)) : ∃ a xs, x = .ref a ∧ SqT K H a xs ∧ Holds K H xs ds := by
  cases h with
  | tup a r => exact ⟨_, _, rfl, a, r⟩
theorem Hold.lstI {x : V} {ds : List Da} (h : Hold K H x (.lst ds)) : ∃ a xs, x = .ref a ∧ SqL K H a xs ∧ Holds K H xs ds := by
  cases h with
  | lst a r => exact ⟨_, _, rfl, a, r⟩
theorem Hold.flatI {x v : V} (h : Hold K H x (.flat v)) : x = v := by
  cases h
  rfl
theorem Holds.getm {α : Type} {f : α → Da} {vs : List V} {ls : List α} {i : Nat} {x : V} (h : Holds K H vs (ls.map f)) (e : vs[i]? = some x) : ∃ l, ls[i]? = some l ∧ Hold K H x (f l) := by
  obtain ⟨d, e1, k⟩ := h.get e
  rw [List.getElem?_map] at e1
  cases q : ls[i]? with
  | none => rw [q] at e1; cases e1
  | some l =>
    rw [q] at e1
    have e2 : f l = d := Option.some.inj e1
    rw [← e2] at k
    exact ⟨l, rfl, k⟩
theorem holds_ints : ∀ (ns : List Int), Holds K H (ns.map V.int) (ns.map fun v => .flat (.int v))
  | [] => .nil
  | _ :: r => .cons (.flat rfl) (holds_ints r)
end

/-! ### isinstance, of what is read too -/
section
variable {X : Cx}
inductive TyQ (K : PySem.W.Frag) (H : Hp) : V → Value → Prop where
  | of {x : V} {t : Value} : TyOf K H x t → TyQ K H x t
  | sqt {a : Addr} {xs : List V} : SqT K H a xs → TyQ K H (.ref a) (.type "tuple")
  | sql {a : Addr} {xs : List V} : SqL K H a xs → TyQ K H (.ref a) (.type "list")
def rIsq (K : PySem.W.Frag) : List V → Hp → VK → Prop := fun xs H Q => ∃ x t n b, xs = [x, .ty n] ∧ TyQ K H x t ∧ PySem.W.kitOne K t (.type n) = some b ∧ Q (.bl b) H
end

/-! ### data made of tuples alone: it stays when lists change -/
mutual
def Da.fix : Da → Bool
  | .flat _ => true
  | .tup xs => fixL xs
  | .lst _ => false
def fixL : List Da → Bool
  | [] => true
  | d :: r => d.fix && fixL r
end
theorem fixL_map {α : Type} {f : α → Da} (h : ∀ a, (f a).fix = true) : ∀ l : List α, fixL (l.map f) = true
  | [] => by rw [List.map_nil, fixL]
  | a :: r => by rw [List.map_cons, fixL, h a, fixL_map h r]; rfl
/-- all tuples stand as they stood -/
def Tups (H H' : Hp) : Prop := (∀ b xs, H b = some (.tup xs) → H' b = some (.tup xs)) ∧ ∀ b o u, H b = some (.frz o u) → H' b = some (.frz o u)
theorem Tups.of {H H' : Hp} (e : Same H H') : Tups H H' := ⟨fun _ _ h => e _ _ h, fun _ _ _ h => e _ _ h⟩
theorem Tups.trans {H H1 H2 : Hp} (a : Tups H H1) (b : Tups H1 H2) : Tups H H2 := ⟨fun c xs h => b.1 c xs (a.1 c xs h), fun c o u h => b.2 c o u (a.2 c o u h)⟩
theorem Tups.put {H : Hp} {u : Addr} {xs : List V} (h : H u = some (.lst xs)) (o : HO) : Tups H (upd H u o) :=
  ⟨fun b ys e => by
    rw [upd_ne (ne_of e h (by intro z; cases z))]
    exact e, fun b ob v e => by
    rw [upd_ne (ne_of e h (by intro z; cases z))]
    exact e⟩
theorem Tups.but {H H' : Hp} {u : Addr} {xs : List V} (h : H u = some (.lst xs)) (k : ∀ b o, b ≠ u → H b = some o → H' b = some o) : Tups H H' :=
  ⟨fun b ys e => k b _ (ne_of e h (by intro z; cases z)) e, fun b ob v e => k b _ (ne_of e h (by intro z; cases z)) e⟩
section
variable {K : PySem.W.Frag} {H H' : Hp}
theorem SqT.tups {a : Addr} {xs : List V} (h : SqT K H a xs) (e : Tups H H') : SqT K H' a xs := by
  rcases h with (h | ⟨o, h⟩) | h
  · exact .inl (.inl (e.1 _ _ h))
  · exact .inl (.inr ⟨o, e.2 _ _ _ h⟩)
  · exact .inr h
mutual
theorem Hold.stay (e : Tups H H') : ∀ {x : V} {d : Da}, d.fix = true → Hold K H x d → Hold K H' x d
  | _, _, _, .flat f => .flat f
  | _, _, q, .tup h r => .tup (h.tups e) (Holds.stay e (by rw [Da.fix] at q; exact q) r)
  | _, _, q, .lst h r => by rw [Da.fix] at q; cases q
theorem Holds.stay (e : Tups H H') : ∀ {xs : List V} {ds : List Da}, fixL ds = true → Holds K H xs ds → Holds K H' xs ds
  | _, _, _, .nil => .nil
  | _, _, q, .cons h r => by
    rw [fixL, Bool.and_eq_true] at q
    exact .cons (Hold.stay e q.1 h) (Holds.stay e q.2 r)
end
end
end L2


set_option Elab.async false
set_option maxRecDepth 100000
set_option maxHeartbeats 4000000
/-! for a, b in zip(t, u): two tuples -/
namespace L2
open PySem PySem.Spec PyProof.Rows
open Sem (wp)
section
variable {prog : Program} {w : World} {A : Around} {E : Value → Shared → Prop} {s : Shared}
theorem drawT {it t : Addr} {k : Nat} {its : Array Value} {y : Value} {Q : Value → Shared → Prop} (hi : s.heap.IsTupleIter it t k) (ht : s.heap.IsTuple t its) (hy : its[k]? = some y)
    (hQ : ∀ h', h'.IsTupleIter it t (k + 1) → Heap.SameBut it s.heap h' → Q y { s with heap := h' }) : wpAny (model prog w) A (Builtin.SmallTypes.nextOf (.ref it)) Q E s := by
  obtain ⟨ob, g1, g2, g3⟩ := id hi
  obtain ⟨ot, t1, _, nt, t3⟩ := ht
  unfold Builtin.SmallTypes.nextOf
  refine wpAny_bind (wpAny_callSpecial?_slot (name := Str.ofString "__next__") hi.typeIs F.slot_tuple_iterator_next (wpAny_call_entry F.slot_tuple_iterator_next hi.typeIs F.entry_tuple_iterator_next ?_ (F.args_tuple_iterator_next_1 _)))
  show wpAny _ _ (field (.ref it) 0 >>= _) _ _ s
  refine wpAny_bind (wpAny_field g1 g3 (x := .ref t) rfl ?_)
  show wpAny _ _ (if (Value.ref t == Value.none) = true then _ else _) _ _ s
  rw [if_neg (show ¬ ((Value.ref t == Value.none) = true) from Bool.false_ne_true)]
  show wpAny _ _ (field (.ref it) 1 >>= _) _ _ s
  refine wpAny_bind (wpAny_field g1 g3 (x := .int k 0) rfl ?_)
  show wpAny _ _ (seqItems? (.ref t) >>= _) _ _ s
  refine wpAny_bind (wpAny_seqItems t1 t3 ?_)
  simp only [Int.toNat_natCast, hy]
  refine wpAny_bind (wpAny_setField g1 g3 (by simp) (wpAny_pure ⟨y, rfl, wpAny_pure (hQ _ ?_ (Heap.SameBut.update ..))⟩))
  exact ⟨_, Heap.get?_update_self _ g1 (Obj.isFreed_of_fields (Obj.data_mapFields g3 _)), (Obj.cls_mapFields ..).trans g2, by rw [Obj.data_mapFields g3]; simp [rawInt]⟩
theorem drawT_end {it t : Addr} {k : Nat} {its : Array Value} {Q : Value → Shared → Prop} (hh : A.handled = none) (hi : s.heap.IsTupleIter it t k) (ht : s.heap.IsTuple t its) (hy : its[k]? = none)
    (hE : ∀ h' e, Heap.ExtBut it s.heap h' → (∃ o, h'.get? e = some o ∧ o.cls = .type "StopIteration") → E (.ref e) { s with heap := h' }) : wpAny (model prog w) A (Builtin.SmallTypes.nextOf (.ref it)) Q E s := by
  obtain ⟨ob, g1, g2, g3⟩ := id hi
  obtain ⟨ot, t1, _, nt, t3⟩ := ht
  unfold Builtin.SmallTypes.nextOf
  refine wpAny_bind (wpAny_callSpecial?_slot (name := Str.ofString "__next__") hi.typeIs F.slot_tuple_iterator_next (wpAny_call_entry F.slot_tuple_iterator_next hi.typeIs F.entry_tuple_iterator_next ?_ (F.args_tuple_iterator_next_1 _)))
  show wpAny _ _ (field (.ref it) 0 >>= _) _ _ s
  refine wpAny_bind (wpAny_field g1 g3 (x := .ref t) rfl ?_)
  show wpAny _ _ (if (Value.ref t == Value.none) = true then _ else _) _ _ s
  rw [if_neg (show ¬ ((Value.ref t == Value.none) = true) from Bool.false_ne_true)]
  show wpAny _ _ (field (.ref it) 1 >>= _) _ _ s
  refine wpAny_bind (wpAny_field g1 g3 (x := .int k 0) rfl ?_)
  show wpAny _ _ (seqItems? (.ref t) >>= _) _ _ s
  refine wpAny_bind (wpAny_seqItems t1 t3 ?_)
  simp only [Int.toNat_natCast, hy]
  refine wpAny_bind (wpAny_rule (wpAny_bind (wpAny_setField g1 g3 (by simp) ?_)))
  show wpAny _ _ (newExc (.type "StopIteration") [] >>= _) _ _ _
  refine wpAny_bind ?_
  simp only [newExc, newTuple]
  refine wpAny_bind (wpAny_newObj_type ?_ (by size_fits))
  refine wpAny_bind (m := firstArgMember _ _) (wpAny_of_eq (a := Value.none) (by first | rfl | (simp only [firstArgMember]; rfl)) ?_)
  refine wpAny_newObj_type ?_ (by size_fits)
  simp only [raiseNew]
  refine wpAny_bind (wpAny_handled ?_)
  first | rw [show A.in1.handled = none from hh] | rw [hh]
  refine wpAny_bind (wpAny_pure (wpAny_throw ?_))
  exact hE _ _ (((Heap.SameBut.update ..).extBut.push _).push _) ⟨_, Heap.get?_push_size _ rfl, rfl⟩

/-- all that a zip of two tuples leans on, at turn k -/
structure ZipT (h : Heap) (z TI TO i1 i2 l1 l2 : Addr) (k : Nat) : Prop where
  zip : IsZip h z TI TO .none
  its : IsPair h TI (.ref i1) (.ref i2)
  out : ∃ a b, IsPair h TO a b
  one : h.IsTupleIter i1 l1 k
  two : h.IsTupleIter i2 l2 k


end

abbrev zT1 (h : Heap) (a : Addr) : Heap := h.push { cls := .type "tuple_iterator", data := .fields #[.ref a, .int 0 0] }
abbrev zT2 (h : Heap) (a b : Addr) : Heap := (zT1 h a).push { cls := .type "tuple_iterator", data := .fields #[.ref b, .int 0 0] }
abbrev zT3 (h : Heap) (a b : Addr) : Heap := (zT2 h a b).push { cls := .type "tuple", data := .seq #[.ref h.objs.size, .ref (zT1 h a).objs.size] }
abbrev zT4 (h : Heap) (a b : Addr) : Heap := (zT3 h a b).push { cls := .type "tuple", data := .seq #[.none, .none] }
abbrev zT5 (h : Heap) (a b : Addr) : Heap := (zT4 h a b).push { cls := .type "zip", data := .fields #[.none, .bool false, .bool false, .ref (zT2 h a b).objs.size, .ref (zT3 h a b).objs.size] }
section
variable {prog : Program} {w : World} {A : Around} {E : Value → Shared → Prop} {s : Shared}
end

/-- the walk: at turn i a new pair of the i-th items -/
def Itz (K : PySem.W.Frag) (a b : Addr) : It :=
  ⟨fun i H => ∃ xs ys x y, SqT K H a xs ∧ SqT K H b ys ∧ xs[i]? = some x ∧ ys[i]? = some y,
   fun i H v H' => ∃ p x y, H p = none ∧ v = .ref p ∧ (∀ xs, SqT K H a xs → xs[i]? = some x) ∧ (∀ ys, SqT K H b ys → ys[i]? = some y) ∧ H' = upd H p (.tup [x, y]),
   fun i H => ∃ xs ys, SqT K H a xs ∧ SqT K H b ys ∧ (xs.length ≤ i ∨ ys.length ≤ i)⟩


section
variable {X : Cx}
def iZip (K : PySem.W.Frag) (ta : TA) : TI := fun σ H R => ta σ H fun vs H1 => ∃ a b xs ys, vs = [.ref a, .ref b] ∧ SqT K H1 a xs ∧ SqT K H1 b ys ∧ R (Itz K a b) H1
end
end L2


set_option Elab.async false
set_option maxRecDepth 100000
set_option maxHeartbeats 4000000
/-! More rules: names from a list, sum, all, a tuple backwards, a list longer by a tuple, a module's tuple -/
namespace L2
open PySem PySem.Spec PyProof.Rows
open Sem (wp)
/-! ### a, b, .. = a list -/
section
variable {prog : Program} {w : World} {A : Around} {E : Value → Shared → Prop}
theorem drawL {it l : Addr} {its : Array Value} (ne : l ≠ it) : ∀ (n k : Nat) (s : Shared) (Q : List Value → Shared → Prop), s.heap.IsListIter it l k → s.heap.IsList l its → k + n ≤ its.size →
    (∀ h', h'.IsListIter it l (k + n) → Heap.SameBut it s.heap h' → Q ((its.toList.drop k).take n) { s with heap := h' }) → wpAny (model prog w) A (draw (.ref it) n) Q E s
  | 0, k, s, Q, hi, _, _, q => by
    show wpAny _ _ (pure []) Q E s
    exact wpAny_pure (by simpa using q s.heap hi (Heap.SameBut.refl ..))
  | n + 1, k, s, Q, hi, hl, le, q => by
    have lt : k < its.size := by omega
    show wpAny _ _ (pyNext (.ref it) >>= _) Q E s
    refine wpAny_bind (wpAny_pyNext_list_item hi hl (x := its[k]) (by simp [lt]) fun h1 i1 s1 => ?_)
    refine wpAny_bind (wpAny_holding (drawL ne n (k + 1) _ _ i1 (hl.extBut s1.extBut ne) (by omega) fun h2 i2 s2 => wpAny_pure ?_))
    have e : its.toList.drop k = its[k] :: its.toList.drop (k + 1) := by simp [List.drop_eq_getElem_cons, lt]
    have z := q h2 (by rw [show k + (n + 1) = k + 1 + n by omega]; exact i2) (s1.trans s2)
    rw [e, List.take_succ_cons] at z
    exact z
theorem unpackL {s : Shared} {l : Addr} {its : Array Value} {Q : List Value → Shared → Prop} (hh : A.handled = none) (hl : s.heap.IsList l its)
    (q : ∀ h', Heap.ExtBut s.heap.objs.size s.heap h' → Q its.toList { s with heap := h' }) : wpAny (model prog w) A (unpackItems (.ref l) its.size none) Q E s := by
  have ne : l ≠ s.heap.objs.size := by obtain ⟨o, ho, _⟩ := hl; exact Nat.ne_of_lt (Heap.lt_size ho)
  unfold unpackItems
  refine wpAny_bind ?_
  · unfold notIterableAtAll
    refine wpAny_bind (wpAny_specialOf hl.typeIs slot_list_iter.lookup ?_)
    refine wpAny_pure ?_
    simp only [Bool.false_eq_true, if_false]
    refine wpAny_bind (wpAny_holding (wpAny_pyIter_list hl ?_))
    refine wpAny_bind (wpAny_holding (drawL ne its.size 0 _ _ ⟨_, Heap.get?_push_size _ rfl, rfl, rfl⟩ (Heap.IsList.push hl _) (by omega) fun h1 i1 s1 => ?_))
    have e : List.take its.size (List.drop 0 its.toList) = its.toList := by
      rw [List.drop_zero]; exact List.take_of_length_le (by simp)
    rw [e]
    rw [if_neg (by simp)]
    have hl1 : h1.IsList l its := (Heap.IsList.push hl _).extBut s1.extBut ne
    refine wpAny_bind (wpAny_holding (wpAny_pyNext_list_end hh i1 hl1 (by simp) fun h2 e2 => ?_))
    simp only [Option.isSome_none, Bool.false_eq_true, if_false]
    refine wpAny_pure (q h2 fun b o hb z => e2 b o hb (s1.extBut b o hb (Heap.get?_push_of_some _ z)))
end
section
variable {X : Cx} {pos : Pos}
def gLst (K : PySem.W.Frag) (n : Nat) (t : TGs) : TG := fun v σ H Q => ∃ a xs, v = .ref a ∧ SqL K H a xs ∧ xs.length = n ∧ t xs σ H Q
theorem pg_lst {es : List Expr} {k : Nat} {t : TGs} {n : Nat} (hc : X.calm = true) (h : PGs X es t)
    (hn : (assignEach es X.env).length = n := by rfl) (hst : (assignEach es X.env).findIdx? (·.1) = none := by rfl) : PG X (.Tuple es k pos) (gLst X.K n t) := by
  intro pins s σ H v u Q I r hw
  obtain ⟨a, xs, rfl, hq, hl, hw⟩ := hw
  cases r
  obtain ⟨its, rv, ht, hz⟩ := I.list hq
  have hsz : its.toArray.size = n := by rw [List.size_toArray, ← rv.length, hl]
  rw [arm_assign_Tuple]
  refine wpAny_bind (wpAny_standAt ?_)
  unfold unpack
  rw [hn, hst, ← hsz]
  refine wpAny_bind (wpAny_holding (unpackL (I.ok.hd hc) ht.isList fun h' hx => ?_))
  have I1 : Inv X pins σ H { s with heap := h' } := I.kept (t' := s.toks) fun b o e => hx b o (Nat.ne_of_lt (Heap.lt_size e)) e
  exact h pins _ σ H xs _ Q I1 (by simpa using rv) hw

/-! ### sum of ints (which is not told), all of bools -/
theorem preSum_le {val : Nat → Int} {n : Nat} (h : ∀ j, j < n → -1000000 ≤ val j ∧ val j ≤ 1000000) : ∀ j, j ≤ n → -(1000000 * (j : Int)) ≤ preSum val j ∧ preSum val j ≤ 1000000 * (j : Int)
  | 0, _ => ⟨by show _ ≤ (0 : Int); omega, by show (0 : Int) ≤ _; omega⟩
  | j + 1, hj => by
    have z := preSum_le h j (by omega)
    have y := h j (by omega)
    show _ ≤ preSum val j + val j ∧ preSum val j + val j ≤ _
    omega
def rSumZ (K : PySem.W.Frag) : List V → Hp → VK → Prop := fun xs H Q => ∃ (a : Addr) (ns : List Int), xs = [.ref a] ∧ SqL K H a (ns.map V.int) ∧ ns.length ≤ 1000 ∧ (∀ n ∈ ns, -1000000 ≤ n ∧ n ≤ 1000000) ∧ ∀ z : Int, Q (.int z) H
theorem call_sumZ (hc : X.calm = true) : CallR X (.builtin "sum") (rSumZ X.K) := by
  intro pins s σ H xs us Q I r h
  obtain ⟨a, ns, rfl, hq, h1000, hr, q⟩ := h
  obtain ⟨u, rfl, ru⟩ := vals1 r
  cases ru
  obtain ⟨its, rv, pl, hz⟩ := I.list hq
  have hl := pl.isList
  have lt : a < s.heap.objs.size := by obtain ⟨o, ho, _⟩ := hl; exact Heap.lt_size ho
  have I1 : Inv X pins σ H { s with heap := s.heap.push { cls := .type "list_iterator", data := .fields #[.ref a, .int 0 0] } } := I.kept (t' := s.toks) fun b o e => Heap.get?_push_of_some _ e
  have fI : FpOk X pins H s.heap.objs.size := I.fpOk (Nat.le_refl _) (I.hok.fresh (Nat.le_refl _))
  have len : its.length = ns.length := by rw [← rv.length, List.length_map]
  have vals : ∀ (i : Nat) (v : Value), its.toArray[i]? = some v → ∃ t, v = .int (ns.getD i 0) t := fun i v e => by
    have e' : its[i]? = some v := by simpa using e
    have hi : i < ns.length := by rw [← len]; exact (List.getElem?_eq_some_iff.mp e').1
    obtain ⟨u, f1, ru⟩ := rv.get (i := i) (x := .int ns[i]) (by rw [List.getElem?_map, List.getElem?_eq_getElem hi]; rfl)
    rw [e'] at f1
    cases f1
    obtain ⟨t, rfl⟩ := ru
    exact ⟨t, by rw [List.getD_eq_getElem?_getD, List.getElem?_eq_getElem hi]; rfl⟩
  have bnd : ∀ j, j < ns.length → -1000000 ≤ ns.getD j 0 ∧ ns.getD j 0 ≤ 1000000 := fun j hj => by
    rw [List.getD_eq_getElem?_getD, List.getElem?_eq_getElem hj]
    exact hr _ (List.getElem_mem hj)
  refine call_sum_walk (wpAny_pyIter_list hl ⟨s.heap.objs.size, [s.heap.objs.size, a], [s.heap.objs.size], its.toArray.size, _, _, fun i => ns.getD i 0, rfl,
    Walks.list (show X.A.in1.handled = none from I.ok.hd hc) s.heap.objs.size a (Nat.ne_of_lt lt) its.toArray, ⟨⟨_, Heap.get?_push_size _ rfl, rfl, rfl⟩, Heap.IsList.push hl _⟩, fun b hb => ?_, vals, fun j hj => ?_, fun h' tk t' kk => ?_⟩)
  · show b < (s.heap.push _).objs.size
    rw [Heap.size_push]
    simp only [List.mem_cons, List.not_mem_nil, or_false] at hb
    rcases hb with z | z
    · rw [z]; exact Nat.lt_succ_self _
    · rw [z]; exact Nat.lt_succ_of_lt lt
  · rw [List.size_toArray, len] at hj
    have b1 := bnd j hj
    have b2 := preSum_le (val := fun i => ns.getD i 0) (n := ns.length) bnd (j + 1) (by omega)
    show InLong (ns.getD j 0) ∧ InLong (preSum (fun i => ns.getD i 0) (j + 1))
    exact ⟨⟨by omega, by omega⟩, ⟨by omega, by omega⟩⟩
  · refine ⟨.int _, H, I1.turnedAll (t' := tk) (ch := [s.heap.objs.size]) (fun b hb => ?_) (fun b o hb e => kk b o hb e), ⟨t', rfl⟩, q _⟩
    cases List.mem_singleton.mp hb
    exact ⟨fI.1, fI.2.1, fI.2.2.1, fI.2.2.2.1, fI.2.2.2.2.1, fI.2.2.2.2.2⟩
def rAllB (K : PySem.W.Frag) : List V → Hp → VK → Prop := fun xs H Q => ∃ (a : Addr) (bs : List Bool), xs = [.ref a] ∧ SqL K H a (bs.map V.bl) ∧ Q (.bl (bs.all id)) H
theorem call_allB (hc : X.calm = true) : CallR X (.builtin "all") (rAllB X.K) := by
  intro pins s σ H xs us Q I r h
  obtain ⟨a, bs, rfl, hq, q⟩ := h
  obtain ⟨u, rfl, ru⟩ := vals1 r
  cases ru
  obtain ⟨its, rv, pl, hz⟩ := I.list hq
  have hl := pl.isList
  have lt : a < s.heap.objs.size := by obtain ⟨o, ho, _⟩ := hl; exact Heap.lt_size ho
  have I1 : Inv X pins σ H { s with heap := s.heap.push { cls := .type "list_iterator", data := .fields #[.ref a, .int 0 0] } } := I.kept (t' := s.toks) fun b o e => Heap.get?_push_of_some _ e
  have fI : FpOk X pins H s.heap.objs.size := I.fpOk (Nat.le_refl _) (I.hok.fresh (Nat.le_refl _))
  have len : its.length = bs.length := by rw [← rv.length, List.length_map]
  have tr : TruthOf X.prog X.w X.A.in1 (fun i v => its.toArray[i]? = some v) (fun i => bs.getD i true) := fun i v s' Q' E' e hQ => by
    have e' : its[i]? = some v := by simpa using e
    have hi : i < bs.length := by rw [← len]; exact (List.getElem?_eq_some_iff.mp e').1
    obtain ⟨u, f1, ru⟩ := rv.get (i := i) (x := .bl bs[i]) (by rw [List.getElem?_map, List.getElem?_eq_getElem hi]; rfl)
    rw [e'] at f1
    cases f1
    cases (show v = Value.bool bs[i] from ru)
    refine wpAny_truthy_bool ?_
    have z : bs.getD i true = bs[i] := by rw [List.getD_eq_getElem?_getD, List.getElem?_eq_getElem hi]; rfl
    have hQ' : Q' (bs.getD i true) s' := hQ
    rw [z] at hQ'
    exact hQ'
  refine call_all_walk (wpAny_pyIter_list hl ⟨s.heap.objs.size, [s.heap.objs.size, a], [s.heap.objs.size], its.toArray.size, _, _, fun i => bs.getD i true, rfl,
    Walks.list (show X.A.in1.handled = none from I.ok.hd hc) s.heap.objs.size a (Nat.ne_of_lt lt) its.toArray, ⟨⟨_, Heap.get?_push_size _ rfl, rfl, rfl⟩, Heap.IsList.push hl _⟩, tr, fun h' tk kk => ?_⟩)
  have ea : (List.range its.toArray.size).all (fun i => bs.getD i true) = bs.all id := by
    rw [List.size_toArray, len, Bool.eq_iff_iff, List.all_eq_true, List.all_eq_true]
    constructor
    · intro z b hb
      obtain ⟨i, hi, rfl⟩ := List.mem_iff_getElem.mp hb
      have y := z i (List.mem_range.mpr hi)
      rw [List.getD_eq_getElem?_getD, List.getElem?_eq_getElem hi] at y
      exact y
    · intro z i hi
      have hi' := List.mem_range.mp hi
      rw [List.getD_eq_getElem?_getD, List.getElem?_eq_getElem hi']
      exact z _ (List.getElem_mem hi')
  rw [ea]
  refine ⟨.bl _, H, I1.turnedAll (t' := tk) (ch := [s.heap.objs.size]) (fun b hb => ?_) (fun b o hb e => kk b o hb e), rfl, q⟩
  cases List.mem_singleton.mp hb
  exact ⟨fI.1, fI.2.1, fI.2.2.1, fI.2.2.2.1, fI.2.2.2.2.1, fI.2.2.2.2.2⟩
end
end L2

/-! ### t[::-1] -/
namespace HT
open PySem PyProof.Rows
section
variable {prog : Program} {w : World} {A : Around} {E : Value → Shared → Prop} {s : Shared}
theorem sliceApplied_rev {sl : Addr} {t : Tok} {n : Nat} {Q : Int × Int × Nat → Shared → Prop} (hs : s.heap.IsSliceOf sl .none .none (.int (-1) t))
    (h : Q ((n : Int) - 1, -1, n) s) : wpAny (model prog w) A (Builtin.Slice.sliceApplied (.ref sl) (pure (n : Int))) Q E s := by
  obtain ⟨os, g1, g2, g3⟩ := id hs
  unfold Builtin.Slice.sliceApplied Builtin.Slice.sliceFields
  refine wpAny_bind (wpAny_bind (wpAny_field g1 g3 (x := .none) rfl (wpAny_bind (wpAny_field g1 g3 (x := .none) rfl (wpAny_bind (wpAny_field g1 g3 (x := .int (-1) t) rfl (wpAny_pure ?_)))))))
  refine wpAny_bind (slicePart_int ?_)
  show wpAny _ _ (if ((-1 : Int) == 0) = true then _ else _) _ _ s
  rw [if_neg (by decide)]
  refine wpAny_bind (slicePart_none (wpAny_bind (slicePart_none (wpAny_bind (wpAny_pure ?_)))))
  show wpAny _ _ (match Builtin.Slice.sliceAdjust none none (-1) (n : Int) with | (lo, hi) => pure (lo, (-1 : Int), Builtin.Slice.slicePlaces lo hi (-1))) _ _ s
  have e : Builtin.Slice.sliceAdjust none none (-1) (n : Int) = ((n : Int) - 1, -1) := by
    unfold Builtin.Slice.sliceAdjust
    have h1 : (-1 : Int) < 0 := by omega
    simp only [h1, if_true]
  rw [e]
  show wpAny _ _ (pure ((n : Int) - 1, (-1 : Int), Builtin.Slice.slicePlaces ((n : Int) - 1) (-1) (-1))) _ _ s
  have e2 : Builtin.Slice.slicePlaces ((n : Int) - 1) (-1) (-1) = n := by
    unfold Builtin.Slice.slicePlaces
    have h1 : ¬ ((-1 : Int) > 0) := by omega
    simp only [h1, if_false, Int.neg_neg, Int.ediv_one]
    split <;> omega
  rw [e2]
  exact wpAny_pure h
theorem pick_rev (xs : List Value) : ((List.range xs.length).filterMap fun (m : Nat) => xs.toArray[(((xs.length : Nat) : Int) - 1 + (m : Int) * (-1)).toNat]?) = xs.reverse := by
  have e : ∀ (l : List Nat), (∀ m ∈ l, m < xs.length) → (l.filterMap fun (m : Nat) => xs.toArray[(((xs.length : Nat) : Int) - 1 + (m : Int) * (-1)).toNat]?) = l.filterMap fun m => xs.reverse[m]? := by
    intro l
    induction l with
    | nil => intro _; rfl
    | cons m r ih =>
      intro hm
      have h1 : m < xs.length := hm m List.mem_cons_self
      have q : (((xs.length : Nat) : Int) - 1 + (m : Int) * (-1)).toNat = xs.length - 1 - m := by omega
      rw [List.filterMap_cons, List.filterMap_cons, ih fun k hk => hm k (List.mem_cons_of_mem _ hk), q]
      have z : xs.toArray[xs.length - 1 - m]? = xs.reverse[m]? := by
        rw [List.getElem?_reverse h1]
        simp
      rw [z]
  rw [e _ fun m hm => List.mem_range.mp hm]
  have f : ∀ (ys : List Value) (k : Nat), k ≤ ys.length → (List.range k).filterMap (fun m => ys[m]?) = ys.take k := by
    intro ys k
    induction k with
    | zero => intro _; rfl
    | succ k ih =>
      intro hk
      rw [List.range_succ, List.filterMap_append, ih (by omega), List.take_add_one, List.getElem?_eq_getElem (by omega : k < ys.length)]
      simp [List.getElem?_eq_getElem (by omega : k < ys.length)]
  have g := f xs.reverse xs.length (by rw [List.length_reverse]; exact Nat.le_refl _)
  rw [g, List.take_of_length_le (by rw [List.length_reverse]; exact Nat.le_refl _)]
theorem getItem_tuple_rev {p sl : Addr} {its : List Value} {t : Tok} {Q : Value → Shared → Prop} (ht : IsTup s.heap p its.toArray) (hs : s.heap.IsSliceOf sl .none .none (.int (-1) t))
    (h : Q (.ref s.heap.objs.size) { s with heap := s.heap.push { cls := .type "tuple", data := .seq its.reverse.toArray } }) (hz : its.length ≤ sizeLine) : wpAny (model prog w) A (getItem (.ref p) (.ref sl)) Q E s := by
  have ok : sizeOk (.seq its.reverse.toArray) := by
    show its.reverse.toArray.size ≤ sizeLine
    rw [List.size_toArray, List.length_reverse]
    exact hz
  obtain ⟨os, g1, g2, g3⟩ := id hs
  have hT : s.TypeIs (.ref sl) "slice" := ⟨os, g1, g2⟩
  unfold getItem
  try with_reducible refine wpAny_holding ?_
  first | refine wpAny_bind (wpAny_pure ?_) | skip
  refine wpAny_bind (wpAny_sequenceKey ht.typeIs (by decide) ?_)
  refine wpAny_bind (wpAny_callSpecial?_slot (name := Str.ofString "__getitem__") ht.typeIs PyProof.Rows.slot_tuple_getitem (wpAny_call_entry PyProof.Rows.slot_tuple_getitem ht.typeIs entry_tuple_getitem ?_ (args_tuple_getitem _ _)))
  show wpAny _ _ (Builtin.Tuple.tupleItemsOf (.ref p) >>= _) _ _ s
  refine wpAny_bind (tupleItemsOf_ ht ?_)
  refine wpAny_bind (wpAny_typeOf hT ?_)
  rw [if_pos (by decide)]
  refine wpAny_bind (sliceApplied_rev hs ?_)
  have no : ¬ (((((its.toArray.size : Nat) : Int) - 1) == 0 && (-1 : Int) == 1 && its.toArray.size == its.toArray.size) = true) := by
    intro q
    rw [Bool.and_eq_true, Bool.and_eq_true] at q
    exact absurd q.1.2 (by decide)
  show wpAny _ _ (if ((((its.toArray.size : Nat) : Int) - 1) == 0 && (-1 : Int) == 1 && its.toArray.size == its.toArray.size) = true then _ else _) _ _ s
  rw [if_neg no]
  have pk : ((List.range its.toArray.size).filterMap fun (m : Nat) => its.toArray[(((its.toArray.size : Nat) : Int) - 1 + (m : Int) * (-1)).toNat]?) = its.reverse := by
    rw [List.size_toArray]
    exact pick_rev its
  rw [pk]
  first
    | exact wpAny_bind (m := Builtin.Tuple.tupleExact _) (wpAny_newObj_type (wpAny_pure ⟨_, rfl, wpAny_pure h⟩) ok)
    | exact wpAny_bind (wpAny_bind (m := Builtin.Tuple.tupleExact _) (wpAny_newObj_type (wpAny_pure ⟨_, rfl, wpAny_pure h⟩) ok))
    | exact wpAny_bind (wpAny_bind (m := Builtin.Tuple.tupleExact _) (wpAny_newObj_type (wpAny_pure (wpAny_pure ⟨_, rfl, wpAny_pure h⟩)) ok))
end
end HT
namespace L2
open PySem PySem.Spec PyProof.Rows
section
variable {X : Cx} {e st : Expr} {te ts : TE} {pos p2 : Pos}
def tRev (K : PySem.W.Frag) (te ts : TE) : TE := fun σ H Q => te σ H fun x H1 => ts σ H1 fun y H2 => y = .int (-1) ∧ ∃ a xs, x = .ref a ∧ SqT K H2 a xs ∧ ∀ p, H2 p = none → Q (.ref p) (upd H2 p (.tup xs.reverse))
theorem pe_revT (he : PE X e te) (hs : PE X st ts) : PE X (.Subscript e (.Slice none none (some st) p2) pos) (tRev X.K te ts) := by
  intro pins s σ H Q I h
  refine Subscript_ (thn (he pins s σ H _ I h) fun v s1 ⟨x, H1, I1, r1, q1⟩ => ?_)
  refine wpAny_Slice ?_
  rw [evalPart_none]
  refine wpAny_pure (wpAny_pure ?_)
  rw [evalPart_some]
  refine thn (hs pins s1 σ H1 _ I1 q1) fun vs s3 ⟨y, H3, I3, r3, q3⟩ => ?_
  obtain ⟨rfl, a, xs, rfl, hx, q⟩ := q3
  obtain ⟨t, rfl⟩ := r3
  cases (show v = Value.ref a from r1)
  have I4 : Inv X pins σ H3 { s3 with heap := s3.heap.push { cls := .type "slice", data := .fields #[.none, .none, .int (-1) t] } } := I3.kept (t' := s3.toks) fun b ob q => Heap.get?_push_of_some _ q
  obtain ⟨its, r4, ht, hz⟩ := I4.tuple hx
  have lz : its.length ≤ sizeLine := by rw [← r4.length]; exact hz
  show wpAny (model X.prog X.w) X.A (subscriptTail e (.Slice none none (some st) p2) (.ref a) (.ref s3.heap.objs.size)) (EP X pins σ Q) X.xe { s3 with heap := s3.heap.push { cls := .type "slice", data := .fields #[.none, .none, .int (-1) t] } }
  refine tail_any (ops := [.ref a, .ref s3.heap.objs.size]) ht.typeIs PyProof.Rows.slot_tuple_getitem.lookup (HT.getItem_tuple_rev ht (Heap.IsSliceOf.new ..) ?_ lz) (by with_unfolding_all rfl)
  refine ⟨.ref _, _, I4.laid (t' := s3.toks) (o := .tup xs.reverse) (fun b ob q => Heap.get?_push_of_some _ q) (Nat.le_refl _) ?_, rfl, q _ (I4.hok.fresh (Nat.le_refl _))⟩
  exact ⟨by rw [List.length_reverse]; exact hz, _, r4.reverse, IsTup.new _ _⟩

/-! ### xs.extend(t), t a tuple -/
theorem extendT (l b : Addr) (xs ys : Array Value) (n k : Nat) (dd : Option Addr) (sl : Array (Option Value)) (hs0 : ¬(!xs.isEmpty && Builtin.List.listTooLong (xs.size + ys.size)) = true) (hs1 : xs.size ≤ sizeLine) (hs2 : xs.size + ys.size ≤ sizeLine + 1) :
    Meets (Builtin.«list.extend» ⟨[.ref l, .ref b], []⟩) (fun _ R s => s.heap.get? l = some { cls := .type "list", dict := none, data := .seq xs n, slots := #[] } ∧ s.heap.get? b = some { cls := .type "tuple", dict := dd, data := .seq ys k, slots := sl } ∧
      R (.ok (.ret Value.none)) { s with heap := s.heap.update l (Obj.mapSeq fun x => x ++ ys), toks := s.toks }) :=
  .of_wp fun prog w A R s h => by
    obtain ⟨hp, gs, dr, tk, os⟩ := s; obtain ⟨hl, hb, h⟩ := h
    have f1 := AutoSeq1.idx_int; have f2 := AutoSeq1.sub_tuple_tuple; have f3 := AutoSeq1.sub_list_list; have f4 := AutoSeq1.sub_tuple_list; have f5 := AutoSeq1.sub_list_tuple
    have hz' : (xs ++ ys).size ≤ sizeLine + 1 := by rw [Array.size_append]; exact hs2
    wp_walk using (wpAny_updateSeq hl rfl (hz := hs1) (_hz' := hz')), AutoSeq1.wpAny_loadPart' hl, AutoSeq1.wpAny_loadPart' hb
    exact ⟨_, rfl, h⟩
def rExtT (K : PySem.W.Frag) : V → List V → Hp → VK → Prop := fun x vs H Q => ∃ l b xs zs, x = .ref l ∧ vs = [.ref b] ∧ H l = some (.lst xs) ∧ SqT K H b zs ∧ xs.length + zs.length ≤ sizeLine ∧ Q .non (upd H l (.lst (xs ++ zs)))
theorem mt_extT : MtM X "list.extend" (rExtT X.K) := by
  intro pins s σ H x vs v us Q I rx rv h
  obtain ⟨l, b, xs, zs, rfl, rfl, hH, hB, hz, q⟩ := h
  cases rx
  obtain ⟨u, rfl, ru⟩ := rv.one
  cases ru
  obtain ⟨z, its, n, r, hl, e⟩ := I.lstM hH
  obtain ⟨its2, r2, p2, _⟩ := I.tuple hB
  have hl2 := r2.length
  obtain ⟨⟨c2, d2, t2, l2⟩, g2, k2, n2, z2⟩ := id p2
  simp only at k2 z2
  subst k2 z2
  have hsz : its.toArray.size + its2.toArray.size ≤ sizeLine := by rw [List.size_toArray, List.size_toArray]; omega
  have hlong : ¬ (!its.toArray.isEmpty && Builtin.List.listTooLong (its.toArray.size + its2.toArray.size)) = true := by
    rw [notLongL hsz, Bool.and_false]
    exact Bool.false_ne_true
  refine call_meets F.slot_list_extend ⟨_, e, rfl⟩ F.entry_list_extend (F.args_list_extend_2 _ _) (extendT l b its.toArray its2.toArray n n2 d2 l2 hlong (by rw [List.size_toArray]; omega) (by omega)) ⟨e, g2, ?_⟩
  refine ⟨.non, _, I.lset (its' := its ++ its2) hH e (by simp) (r.append r2) ?_, rfl, q⟩
  rw [List.length_append]
  omega
end
/-- a module's tuple of texts -/
theorem sqt_mod {K : PySem.W.Frag} {H : Hp} {a : Addr} {o : Obj} {its : Array Value} {n : Nat} {xs : List V} (l : K.lookup a = some o) (c : o.cls = .type "tuple") (d : o.data = .seq its n) (z : its.size ≤ sizeLine) (r : Vals xs its.toList) : SqT K H a xs :=
  .inr ⟨o, its, n, l, c, d, z, r⟩
/-! ### argument lists and displays: a written constant first (shown once, whatever stands behind it) -/
section
variable {X : Cx} {es : List Expr} {te : TE} {t : TA}
theorem pc_c {c : Const} {k : Nat} {p : Pos} (ha : PE X (.Constant c k p) te) (hr : PA X es t) : PA X (.Constant c k p :: es) (tCons te t) := pa_cons ha hr
theorem pc_n {x : Str} {p : Pos} (ha : PE X (.Name x p) te) (hr : PA X es t) : PA X (.Name x p :: es) (tCons te t) := pa_cons ha hr
theorem pc_t {l : List Expr} {k : Nat} {p : Pos} (ha : PE X (.Tuple l k p) te) (hr : PA X es t) : PA X (.Tuple l k p :: es) (tCons te t) := pa_cons ha hr
theorem pc_a {f : Expr} {l : List Expr} {kw : List Keyword} {p : Pos} (ha : PE X (.Call f l kw p) te) (hr : PA X es t) : PA X (.Call f l kw p :: es) (tCons te t) := pa_cons ha hr
end
end L2


set_option Elab.async false
set_option maxRecDepth 100000
set_option maxHeartbeats 4000000
/-! An exception under way through the frames, with its own dict in sight. -/
namespace Fly
open PySem
open Sem (wp)

/-- its traceback: none yet; or one in whose flight cell f stands -/
def Tb (B h : Heap) (e : Addr) (vs : Array Value) : Option Value → Prop
  | none => vs[1]? = some .none
  | some f => ∃ T oT ts, vs[1]? = some (.ref T) ∧ B.get? T = none ∧ T ≠ e ∧ h.get? T = some oT ∧ oT.data = .fields ts ∧ ts[3]? = some f

structure XAt (B : Heap) (l : List Env) (e : Addr) (cls : Value) (dct : Option Addr) (fl : Option Value) (h : Heap) : Prop where
  stays : B.StaysIn h
  new : B.get? e = none
  frames : h.FunFrames B l
  obj : ∃ oe vs, h.get? e = some oe ∧ oe.cls = cls ∧ oe.dict = dct ∧ oe.data = .fields vs ∧ 1 < vs.size ∧ Tb B h e vs fl

theorem XAt.drop {B : Heap} {env : Env} {l : List Env} {e : Addr} {cls : Value} {dct : Option Addr} {fl : Option Value} {h : Heap} (x : XAt B (env :: l) e cls dct fl h) : XAt B l e cls dct fl h :=
  ⟨x.stays, x.new, x.frames.2.2, x.obj⟩

theorem dict_mf (o : Obj) (f) : (o.mapFields f).dict = o.dict := by
  unfold Obj.mapFields; split <;> rfl

section
variable {M : Model} {A : Around} {E : Value → Shared → Prop} {s : Shared}

theorem entry {B : Heap} {env : Env} {outer : List Env} {L e : Addr} {oe : Obj} {vs : Array Value} {head : Value} {more : Bool} {Q : Unit → Shared → Prop}
    (hfr : A.frames = some (env :: outer)) (hl : s.heap.FunFrames B (env :: outer)) (hf : env.frame = some L) (he : s.heap.get? e = some oe) (hkb : B.StaysIn s.heap) (hen : B.get? e = none) (hd : oe.data = .fields vs) (hsz : 1 < vs.size)
    (h : ∀ h', XAt B (env :: outer) e oe.cls oe.dict (some (rawInt L)) h' → s.heap.UpToSlots h' → Q () { s with heap := h' }) :
    wpAny M A (do let a ← frameOf env; let pl ← entryPlaceOf L more; let b ← EntryCells.newEntry head a .none (rawInt L) .none pl; setField (.ref e) 1 b) Q E s := by
  have nf : e ∉ (env :: outer).filterMap (·.frame) := by
    intro hm
    obtain ⟨_, o, ho, z⟩ := hl.mem hm
    rw [he] at ho; cases ho
    exact z vs hd
  refine wpAny_bind (wpAny_frameOf_fun hfr hl hf fun h1 hs1 => ?_)
  refine wpAny_bind (wpAny_entryPlaceOf fun pl hpl => ?_)
  unfold EntryCells.newEntry newFields
  refine wpAny_bind (wpAny_newObj_type ?_ (hpl.sizeOk5 _ _ _ _ _))
  have tb3 : (([head, .ref L, .none, rawInt L, .none] ++ (if pl.isEmpty then List.replicate 6 Value.none else pl)).toArray : Array Value)[3]? = some (rawInt L) := by
    first | (simp; done) | (rcases hpl with rfl | ⟨_, _, _, _, _, _, _, rfl⟩ <;> simp)
  generalize ([head, .ref L, .none, rawInt L, .none] ++ (if pl.isEmpty then List.replicate 6 Value.none else pl)).toArray = ts at tb3 ⊢
  have e1 : h1.get? e = some oe := (hs1.2.1 e nf).trans he
  have k1 : B.StaysIn h1 := fun b o q => (hs1.2.1 b fun hm => by rw [(hl.mem hm).1] at q; cases q).trans (hkb b o q)
  have e2 := Heap.get?_push_of_some (h := h1) { cls := .type "traceback", dict := none, data := .fields ts } e1
  refine wpAny_setField e2 hd hsz ?_
  have ne : h1.objs.size ≠ e := Nat.ne_of_gt (Heap.lt_size e1)
  have d3 := Obj.data_mapFields hd (·.setIfInBounds 1 (Value.ref h1.objs.size))
  have e3 := Heap.get?_update_self (Obj.mapFields (·.setIfInBounds 1 (Value.ref h1.objs.size))) e2 (Obj.isFreed_of_fields d3)
  have t3 := (Heap.get?_update_other (h1.push { cls := .type "traceback", dict := none, data := .fields ts }) (Obj.mapFields (·.setIfInBounds 1 (Value.ref h1.objs.size))) (Ne.symm ne)).trans (Heap.get?_push_size h1 rfl)
  have kp : ∀ b o, b ≠ e → h1.get? b = some o → ((h1.push { cls := .type "traceback", dict := none, data := .fields ts }).update e (Obj.mapFields (·.setIfInBounds 1 (Value.ref h1.objs.size)))).get? b = some o := by
    intro b o hb q
    rw [Heap.get?_update_other _ _ (Ne.symm hb)]; exact Heap.get?_push_of_some _ q
  have nr : ∀ b o, s.heap.get? b = some o → (∀ vs, o.data ≠ .fields vs) → b ≠ e := by
    intro b o q z w; subst w
    rw [he] at q; cases q
    exact z vs hd
  refine h _ ⟨fun b o q => kp b o (fun w => by rw [w, hen] at q; cases q) (k1 b o q), hen, hl.of_keeps fun b o q z => ?_, ?_⟩ fun b o q z => ?_
  · obtain ⟨sl, hs⟩ := hs1.2.2 b o q
    exact ⟨_, kp b _ (nr b o q z) hs, rfl⟩
  · exact ⟨_, _, e3, Obj.cls_mapFields _ _, dict_mf _ _, d3, by simpa using hsz, h1.objs.size, _, _, by simp [hsz], k1.fresh, ne, t3, rfl, tb3⟩
  · obtain ⟨sl, hs⟩ := hs1.2.2 b o q
    exact ⟨sl, kp b _ (nr b o q z) hs⟩

/-- the frame notes it: it is new, or it comes from a callee -/
theorem note {B : Heap} {env : Env} {outer : List Env} {L e : Addr} {cls : Value} {dct : Option Addr} {fl : Option Value} {Q : Unit → Shared → Prop}
    (hfr : A.frames = some (env :: outer)) (hf : env.frame = some L) (x : XAt B (env :: outer) e cls dct fl s.heap) (hfl : fl = none ∨ fl = some .none)
    (h : ∀ h', XAt B (env :: outer) e cls dct (some (rawInt L)) h' → s.heap.UpToSlots h' → Q () { s with heap := h' }) : wpAny M A (noteFrame (.ref e) env) Q E s := by
  obtain ⟨k, en, l, oe, vs, he, rfl, rfl, hd, hsz, tb⟩ := x
  unfold noteFrame
  simp only [hf]
  rcases hfl with rfl | rfl
  · refine wpAny_bind (wpAny_field he hd (show vs[1]? = some .none from tb) ?_)
    rw [if_neg (by decide)]
    exact entry hfr l hf he k en hd hsz h
  · obtain ⟨T, oT, ts, h1, nT, ne, hT, dT, h3⟩ := (show ∃ T oT ts, vs[1]? = some (.ref T) ∧ B.get? T = none ∧ T ≠ e ∧ s.heap.get? T = some oT ∧ oT.data = .fields ts ∧ ts[3]? = some .none from tb)
    refine wpAny_bind (wpAny_field he hd h1 ?_)
    rw [if_pos (show (Value.ref T != Value.none) = true from by simp)]
    refine wpAny_bind (wpAny_field hT dT h3 ?_)
    rw [if_neg (show ¬ ((Value.none == rawInt L) = true) from by simp [rawInt])]
    refine wpAny_bind (wpAny_setField hT dT (Array.getElem?_eq_some_iff.mp h3).1 ?_)
    have ot : ∀ b, b ≠ T → (s.heap.update T (Obj.mapFields (·.setIfInBounds 3 Value.none))).get? b = s.heap.get? b := fun b hb => Heap.get?_update_other _ _ (Ne.symm hb)
    have nr : ∀ b o, s.heap.get? b = some o → (∀ vs, o.data ≠ .fields vs) → b ≠ T := by
      intro b o q z w; subst w
      rw [hT] at q; cases q
      exact z ts dT
    refine entry hfr (l.of_keeps fun b o q z => ⟨o, (ot b (nr b o q z)).trans q, rfl⟩) hf ((ot e (Ne.symm ne)).trans he) (fun b o q => (ot b fun w => by rw [w, nT] at q; cases q).trans (k b o q)) en hd hsz fun h' y u => ?_
    exact h h' y fun b o q z => u b o ((ot b (nr b o q z)).trans q) z

/-- it is no longer under way here -/
theorem land {B : Heap} {l : List Env} {e : Addr} {cls f : Value} {dct : Option Addr} {Q : Unit → Shared → Prop} (x : XAt B l e cls dct (some f) s.heap)
    (h : ∀ h', XAt B l e cls dct (some .none) h' → s.heap.UpToSlots h' → Q () { s with heap := h' }) : wpAny M A (setFlight (.ref e) none) Q E s := by
  obtain ⟨k, en, hl, oe, vs, he, rfl, rfl, hd, hsz, tb⟩ := x
  obtain ⟨T, oT, ts, h1, nT, ne, hT, dT, h3⟩ := (show ∃ T oT ts, vs[1]? = some (.ref T) ∧ B.get? T = none ∧ T ≠ e ∧ s.heap.get? T = some oT ∧ oT.data = .fields ts ∧ ts[3]? = some f from tb)
  have z3 : 3 < ts.size := (Array.getElem?_eq_some_iff.mp h3).1
  have ot : ∀ b, b ≠ T → (s.heap.update T (Obj.mapFields (·.setIfInBounds 3 ((none : Option Addr).elim Value.none fun f => rawInt f)))).get? b = s.heap.get? b := fun b hb => Heap.get?_update_other _ _ (Ne.symm hb)
  have nr : ∀ b o, s.heap.get? b = some o → (∀ vs, o.data ≠ .fields vs) → b ≠ T := by
    intro b o q z w; subst w
    rw [hT] at q; cases q
    exact z ts dT
  unfold setFlight
  refine wpAny_bind (wpAny_field he hd h1 ?_)
  rw [if_pos (show (Value.ref T != Value.none) = true from by simp)]
  refine wpAny_setField hT dT z3 (h _ ⟨fun b o q => (ot b fun w => by rw [w, nT] at q; cases q).trans (k b o q), en, hl.of_keeps fun b o q z => ⟨o, (ot b (nr b o q z)).trans q, rfl⟩, ?_⟩ fun b o q z => ⟨o.slots, (ot b (nr b o q z)).trans q⟩)
  exact ⟨oe, vs, (ot e (Ne.symm ne)).trans he, rfl, rfl, hd, hsz, T, _, _, h1, nT, ne, Heap.get?_update_self _ hT (Obj.isFreed_of_fields (Obj.data_mapFields dT _)), Obj.data_mapFields dT _, by simp [z3]⟩

/-- it leaves the frame -/
theorem leave {B : Heap} {env : Env} {outer : List Env} {L e : Addr} {cls : Value} {dct : Option Addr} {fl : Option Value} {Q : Unit → Shared → Prop}
    (hfr : A.frames = some (env :: outer)) (hf : env.frame = some L) (x : XAt B (env :: outer) e cls dct fl s.heap) (hfl : fl = none ∨ fl = some .none)
    (h : ∀ h', XAt B outer e cls dct (some .none) h' → s.heap.UpToSlots h' → Q () { s with heap := h' }) : wpAny M A (leaving env (.ref e)) Q E s := by
  unfold leaving
  refine wpAny_bind (note hfr hf x hfl fun h1 x1 u1 => land x1 fun h2 x2 u2 => ?_)
  exact h h2 x2.drop (u1.trans u2)

end
end Fly


set_option Elab.async false
set_option maxRecDepth 100000
set_option maxHeartbeats 4000000
/-! An own exception class is called: its own __init__, or the built-in one. -/
namespace Fly
open PySem
open Sem (wp)

/-- what is read of the heap, and found also in what grew out of it -/
abbrev Sees {α : Type} (M : Model) (h : Heap) (t : Sem α) (r : α) : Prop :=
  ∀ (A : Around) (Q : α → Shared → Prop) (E : Value → Shared → Prop) (s : Shared), (∀ b o, h.get? b = some o → s.heap.get? b = some o) → Q r s → wpAny M A t Q E s

section
variable {prog : Program} {w : World} {A : Around} {E : Value → Shared → Prop} {h : Heap} {g : Array GenState} {d : Drawn} {t : Nat} {os : OsState}
variable {nm q : Str} {C N : Addr} {bs bm bmB : List Value} {hdct : Bool} {sn : List Str} {sub : List Value} {ab : Bool} {col : Option Bool} {dd : Option Addr} {k0 k1 k2 k3 k5 : Option Value} {B newId initId : String}

theorem chk_new (F : ExcBaseFacts B newId initId bmB) (cB : bm.contains (.type B) = true) {M : Model} {rest : List Value} {Q : Unit → Shared → Prop}
    (hC : h.get? C = some (excClassObj nm q C N bs bm hdct sn sub ab col dd k0 k1 k2 k3 k5 newId)) (hq : Q () ⟨h, g, d, t, os⟩) : wpAny M A (checkBuiltinCall newId ⟨.ref C :: rest, []⟩) Q E ⟨h, g, d, t, os⟩ := by
  have c1 : (Value.ref C :: bm).contains (.type B) = true := by rw [List.contains_cons, cB, Bool.or_true]
  have c2 := F.noStar
  simp only [checkBuiltinCall, F.newKind, F.newSplit, F.newRow]
  repeat (first
    | refine wpAny_loadPart_at hC ?_
    | (refine wpAny_isSubtype_exc hC ?_; rw [c1])
    | refine wpAny_staticBase_exc hC ?_
    | refine wpAny_madeBy_exc hC ?_
    | simp only [bne_self_eq_false, Bool.false_eq_true, if_false]
    | wp_step)
  exact hq

theorem run_new {R : Result → Shared → Prop} (F : ExcBaseFacts B newId initId bmB) (cB : bm.contains (.type B) = true) (cA : bm.contains (.type "AttributeError") = false) (cN : bm.contains (.type "NameError") = false) {rest : List Value}
    (hC : h.get? C = some (excClassObj nm q C N bs bm hdct sn sub ab col dd k0 k1 k2 k3 k5 newId))
    (hq : R (.ok (.ret (.ref (h.objs.size + 1)))) ⟨(h.push { cls := .type "tuple", data := .seq rest.toArray }).push { cls := .ref C, data := .fields #[.ref h.objs.size, .none, .none, .none, .bool false, .none] }, g, d, t, os⟩) (hrest : rest.length ≤ sizeLine) :
    codeAny (model prog w) A (.builtin newId ⟨.ref C :: rest, []⟩) R ⟨h, g, d, t, os⟩ := by
  have f1 := F.ends
  have c1 : (Value.ref C :: bm).contains (.type B) = true := by rw [List.contains_cons, cB, Bool.or_true]
  have c2 : (Value.ref C :: bm).contains (.type "AttributeError") = false := by rw [List.contains_cons, cA]; rfl
  have c3 : (Value.ref C :: bm).contains (.type "NameError") = false := by rw [List.contains_cons, cN]; rfl
  refine codeAny_builtinAt F.entry ?_
  unfold Builtin.«BaseException.__new__»
  refine wpAt_bind ?_
  show wpAt _ _ _ (stack >>= _) _ _ _
  refine wpAt_bind (wpAt_stack fun p below => wpAt_of_wpAny ?_)
  wp_walk
  refine wpAt_of_wpAny ?_
  rw [F.owner]
  repeat (first
    | with_reducible refine wpAny_madeHere_exc F.canon hC ?_
    | with_reducible refine wpAny_loadPart_at hC ?_
    | (with_reducible refine wpAny_isSubtype_exc hC ?_; first | rw [c1] | rw [c2] | rw [c3])
    | wp_step)
  show R _ _
  rw [Heap.size_push]
  exact hq

/-- C(..) with a def of its own for __init__ -/
theorem tcall_init (F : ExcBaseFacts B newId initId bmB) (cB : bm.contains (.type B) = true) (cA : bm.contains (.type "AttributeError") = false) (cN : bm.contains (.type "NameError") = false) {rest : List Value} {fI : Addr} {oI : Obj} {Q : Fin → Shared → Prop}
    (hC : h.get? C = some (excClassObj nm q C N bs bm hdct sn sub ab col dd k0 k1 k2 k3 k5 newId)) (hi : Sees (model prog w) h (typeLookup (.ref C) "__init__") (some (.ref fI)))
    (hfI : h.get? fI = some oI) (hfc : oI.cls = .type "function")
    (hq : ∀ h' e, h.objs.size ≤ e → Heap.MadeExcOf h h' e (.ref C) rest → wpAny (model prog w) A (call (.ref fI) (.ref e :: rest)) (fun r s' => r = .none ∧ Q (.done (.ret (.ref e))) s') E ⟨h', g, d, t, os⟩) (hrest : rest.length ≤ sizeLine) :
    wpAny (model prog w) A (Builtin.«type.__call__» ⟨.ref C :: rest, []⟩) Q E ⟨h, g, d, t, os⟩ := by
  repeat (first
    | with_reducible refine wpAny_loadPart_at hC ?_
    | with_reducible refine wpAny_madeBy_exc hC ?_
    | wp_step)
  refine codeAny_call_builtin_code (Code.quiet_builtin _ F.quiet) (chk_new F cB hC ?_)
  refine run_new F cB cA cN hC ?_ hrest
  show wpAny _ _ _ _ _ _
  have kp : ∀ b o, h.get? b = some o → ((h.push { cls := .type "tuple", data := .seq rest.toArray }).push { cls := .ref C, data := .fields #[.ref h.objs.size, .none, .none, .none, .bool false, .none] }).get? b = some o :=
    fun b o z => Heap.get?_push_of_some _ (Heap.get?_push_of_some _ z)
  have hC1 := kp _ _ hC
  have hfI1 := kp _ _ hfI
  have he : ((h.push { cls := .type "tuple", data := .seq rest.toArray }).push { cls := .ref C, data := .fields #[.ref h.objs.size, .none, .none, .none, .bool false, .none] }).get? (h.objs.size + 1)
      = some { cls := .ref C, data := .fields #[.ref h.objs.size, .none, .none, .none, .bool false, .none] } := by heap_get
  have c3 : (Value.ref C :: bm).contains (.ref C) = true := by simp
  unfold isInstance
  repeat (first
    | with_reducible refine wpAny_loadPart_at he ?_
    | (with_reducible refine wpAny_isSubtype_exc hC1 ?_; rw [c3])
    | wp_step)
  show wpAny _ _ (typeLookup (.ref C) _) _ _ _
  refine hi _ _ _ _ kp ?_
  refine wpAny_holding (wpAny_bind ?_)
  unfold bindSpecial
  refine wpAny_bind (wpAny_typeOf (T := "function") ⟨_, hfI1, hfc⟩ ?_)
  rw [if_pos (by decide)]
  refine wpAny_pure (wpAny_bind (wpAny_mono (hq _ (h.objs.size + 1) (Nat.le_succ _) ⟨kp, Heap.get?_none_of_le (Nat.le_succ _), h.objs.size, he, Heap.get?_none_of_le (Nat.le_refl _), ?_⟩) (fun r s' hr => ?_) fun _ _ x => x))
  · exact Heap.get?_push_of_some _ (Heap.get?_push_at rfl rfl)
  · obtain ⟨rfl, hQ⟩ := hr
    wp_walk
    exact hQ

theorem call_init (F : ExcBaseFacts B newId initId bmB) (cB : bm.contains (.type B) = true) (cA : bm.contains (.type "AttributeError") = false) (cN : bm.contains (.type "NameError") = false) {rest : List Value} {fI : Addr} {oI : Obj} {Q : Value → Shared → Prop}
    (hC : h.get? C = some (excClassObj nm q C N bs bm hdct sn sub ab col dd k0 k1 k2 k3 k5 newId)) (hi : Sees (model prog w) h (typeLookup (.ref C) "__init__") (some (.ref fI)))
    (hfI : h.get? fI = some oI) (hfc : oI.cls = .type "function")
    (hq : ∀ h' e, h.objs.size ≤ e → Heap.MadeExcOf h h' e (.ref C) rest → wpAny (model prog w) (A.under (.builtin "type.__call__" ⟨.ref C :: rest, []⟩)) (call (.ref fI) (.ref e :: rest)) (fun r s' => r = .none ∧ Q (.ref e) s') E ⟨h', g, d, t, os⟩) (hrest : rest.length ≤ sizeLine) :
    wpAny (model prog w) A (call (.ref C) rest) Q E ⟨h, g, d, t, os⟩ := by
  have f1 := tc_lookup
  have f2 := tc_bind (.ref C)
  have hT : (⟨h, g, d, t, os⟩ : Shared).TypeIs (.ref C) "type" := ⟨_, hC, rfl⟩
  refine wpAny_call (codeAny_of_tree ?_)
  show wpAny _ _ (callAny (.ref C) _) _ _ _
  repeat (any_goals (first
    | assumption
    | with_reducible refine wpAny_loadPart_at hC ?_
    | wp_step))
  refine ⟨rfl, ?_⟩
  refine codeAny_call_builtin_at (Code.quiet_builtin _ (by decide +kernel)) entry_typeCall (wpAny_check_type_call_sub hC (tcall_init (hrest := hrest) F cB cA cN hC hi hfI hfc fun h' e sz hm => ?_))
  exact hq h' e sz hm

/-- B.__init__(e, ..) of the built-in class: the arguments are kept -/
theorem chk_init (F : ExcBaseFacts B newId initId bmB) (cB : bm.contains (.type B) = true) {M : Model} {e : Addr} {oe : Obj} {rest : List Value} {Q : Unit → Shared → Prop} {nid : String}
    (hC : h.get? C = some (excClassObj nm q C N bs bm hdct sn sub ab col dd k0 k1 k2 k3 k5 nid)) (he : h.get? e = some oe) (hcls : oe.cls = .ref C) (hq : Q () ⟨h, g, d, t, os⟩) :
    wpAny M A (checkBuiltinCall initId ⟨.ref e :: rest, []⟩) Q E ⟨h, g, d, t, os⟩ := by
  have c1 : (Value.ref C :: bm).contains (.type B) = true := by rw [List.contains_cons, cB, Bool.or_true]
  have c2 := F.noStar
  simp only [checkBuiltinCall, F.initKind, F.initSplit, F.initRow]
  repeat (first
    | (with_reducible refine wpAny_loadPart_at he ?_; rw [hcls])
    | with_reducible refine wpAny_loadPart_at hC ?_
    | (with_reducible refine wpAny_isSubtype_exc hC ?_; rw [c1])
    | wp_step)
  refine wpAny_onRaise ?_
  rw [show ∀ (a b : String) (n : Nat), Bind.check ⟨.positional, "*", B, .self, [⟨"args", .varPos, false⟩]⟩ a b n (List.map (fun x => x.fst) ({ pos := .ref e :: rest } : Args).kw) = pure () from fun a b n => check_star_args _ _ _ _ _ _]
  exact wpAny_pure hq

theorem base_init (F : ExcBaseFacts B newId initId bmB) (cB : bm.contains (.type B) = true) {e t0 : Addr} {dct : Option Addr} {rest : List Value} {Q : Value → Shared → Prop} {nid : String}
    (hC : h.get? C = some (excClassObj nm q C N bs bm hdct sn sub ab col dd k0 k1 k2 k3 k5 nid)) (he : h.get? e = some { cls := .ref C, dict := dct, data := .fields #[.ref t0, .none, .none, .none, .bool false, .none] }) (hrest : rest.length ≤ sizeLine)
    (hq : ∀ h' t1, (∀ b o, b ≠ e → h.get? b = some o → h'.get? b = some o) → h'.get? e = some { cls := .ref C, dict := dct, data := .fields #[.ref t1, .none, .none, .none, .bool false, .none] } → Q .none ⟨h', g, d, t, os⟩) :
    wpAny (model prog w) A (call (.builtin initId) (.ref e :: rest)) Q E ⟨h, g, d, t, os⟩ := by
  refine wpAny_call (codeAny_call_builtin F.init.plain F.initEntry (chk_init F cB hC he rfl ?_))
  wp_walk
  refine hq _ h.objs.size (fun b o hb z => ?_) ?_
  · rw [Heap.get?_update_other _ _ (Ne.symm hb)]
    exact Heap.get?_push_of_some _ z
  · rw [Heap.get?_update_self _ (Heap.get?_push_of_some _ he) rfl]
    rfl

/-- C(..) where the built-in __init__ is found -/
theorem tcall_bi (F : ExcBaseFacts B newId initId bmB) (cB : bm.contains (.type B) = true) (cA : bm.contains (.type "AttributeError") = false) (cN : bm.contains (.type "NameError") = false) {rest : List Value} {Q : Fin → Shared → Prop}
    (hC : h.get? C = some (excClassObj nm q C N bs bm hdct sn sub ab col dd k0 k1 k2 k3 k5 newId)) (hi : Sees (model prog w) h (typeLookup (.ref C) "__init__") (some (.builtin initId)))
    (hq : ∀ h' e t1, h.objs.size ≤ e → (∀ b o, h.get? b = some o → h'.get? b = some o) → h'.get? e = some { cls := .ref C, data := .fields #[.ref t1, .none, .none, .none, .bool false, .none] } → Q (.done (.ret (.ref e))) ⟨h', g, d, t, os⟩) (hrest : rest.length ≤ sizeLine) :
    wpAny (model prog w) A (Builtin.«type.__call__» ⟨.ref C :: rest, []⟩) Q E ⟨h, g, d, t, os⟩ := by
  repeat (first
    | with_reducible refine wpAny_loadPart_at hC ?_
    | with_reducible refine wpAny_madeBy_exc hC ?_
    | wp_step)
  refine codeAny_call_builtin_code (Code.quiet_builtin _ F.quiet) (chk_new F cB hC ?_)
  refine run_new F cB cA cN hC ?_ hrest
  show wpAny _ _ _ _ _ _
  have kp : ∀ b o, h.get? b = some o → ((h.push { cls := .type "tuple", data := .seq rest.toArray }).push { cls := .ref C, data := .fields #[.ref h.objs.size, .none, .none, .none, .bool false, .none] }).get? b = some o :=
    fun b o z => Heap.get?_push_of_some _ (Heap.get?_push_of_some _ z)
  have hC1 := kp _ _ hC
  have he : ((h.push { cls := .type "tuple", data := .seq rest.toArray }).push { cls := .ref C, data := .fields #[.ref h.objs.size, .none, .none, .none, .bool false, .none] }).get? (h.objs.size + 1)
      = some { cls := .ref C, data := .fields #[.ref h.objs.size, .none, .none, .none, .bool false, .none] } := by heap_get
  have c3 : (Value.ref C :: bm).contains (.ref C) = true := by simp
  unfold isInstance
  repeat (first
    | with_reducible refine wpAny_loadPart_at he ?_
    | (with_reducible refine wpAny_isSubtype_exc hC1 ?_; rw [c3])
    | wp_step)
  show wpAny _ _ (typeLookup (.ref C) _) _ _ _
  refine hi _ _ _ _ kp ?_
  refine wpAny_holding (wpAny_bind (wpAny_of_eq (F.init.bind _) ?_))
  refine wpAny_bind (base_init F cB hC1 he hrest fun h' t1 k2 he2 => ?_)
  wp_walk
  exact hq h' (h.objs.size + 1) t1 (Nat.le_succ _) (fun b o z => k2 b o (Nat.ne_of_lt (Nat.lt_succ_of_lt (Heap.lt_size z))) (kp b o z)) he2

theorem call_bi (F : ExcBaseFacts B newId initId bmB) (cB : bm.contains (.type B) = true) (cA : bm.contains (.type "AttributeError") = false) (cN : bm.contains (.type "NameError") = false) {rest : List Value} {Q : Value → Shared → Prop}
    (hC : h.get? C = some (excClassObj nm q C N bs bm hdct sn sub ab col dd k0 k1 k2 k3 k5 newId)) (hi : Sees (model prog w) h (typeLookup (.ref C) "__init__") (some (.builtin initId)))
    (hq : ∀ h' e t1, h.objs.size ≤ e → (∀ b o, h.get? b = some o → h'.get? b = some o) → h'.get? e = some { cls := .ref C, data := .fields #[.ref t1, .none, .none, .none, .bool false, .none] } → Q (.ref e) ⟨h', g, d, t, os⟩) (hrest : rest.length ≤ sizeLine) :
    wpAny (model prog w) A (call (.ref C) rest) Q E ⟨h, g, d, t, os⟩ := by
  have f1 := tc_lookup
  have f2 := tc_bind (.ref C)
  have hT : (⟨h, g, d, t, os⟩ : Shared).TypeIs (.ref C) "type" := ⟨_, hC, rfl⟩
  refine wpAny_call (codeAny_of_tree ?_)
  show wpAny _ _ (callAny (.ref C) _) _ _ _
  repeat (any_goals (first
    | assumption
    | with_reducible refine wpAny_loadPart_at hC ?_
    | wp_step))
  refine ⟨rfl, ?_⟩
  refine codeAny_call_builtin_at (Code.quiet_builtin _ (by decide +kernel)) entry_typeCall (wpAny_check_type_call_sub hC (tcall_bi (hrest := hrest) F cB cA cN hC hi fun h' e t1 sz kp he => ?_))
  exact hq h' e t1 sz kp he
end
end Fly


set_option Elab.async false
set_option maxRecDepth 100000
set_option maxHeartbeats 4000000
/-! An attribute is stored on an exception. -/
namespace Fly
open PySem
open Sem (wp)
open Builtin Builtin.ObjectAttr

section
variable {prog : Program} {w : World} {A : Around} {E : Value → Shared → Prop} {h : Heap} {g : Array GenState} {d : Drawn} {t : Nat} {os : OsState}
variable {nm q : Str} {C N x : Addr} {bs bm bmB : List Value} {sn : List Str} {sub : List Value} {ab : Bool} {col : Option Bool} {dd : Option Addr} {k0 k1 k2 k3 k5 : Option Value} {B newId sa owner : String} {name : Str} {v : Value}

/-- the dict is made -/
theorem osa_new {o : Obj} {tk : Tok} {Q : Fin → Shared → Prop} (pass : ∀ self : Value, refuseLoop self "__setattr__" bm = pure ())
    (hC : h.get? C = some (excClassObj nm q C N bs bm true sn sub ab col dd k0 k1 k2 k3 k5 newId)) (hna : Sees (model prog w) h (typeLookup (.ref C) name) none)
    (hx : h.get? x = some o) (hc : o.cls = .ref C) (hnc : ∀ c, o.data ≠ .cls c) (hdn : o.dict = none)
    (hq : ∀ h' t' dx, h.get? dx = none → dx ≠ x → h.objs.size ≤ dx → h'.get? x = some { o with dict := some dx } → h'.Ns1 dx (fun y => if y = name then some v else none) → (∀ b u, b ≠ x → h.get? b = some u → h'.get? b = some u) → Q (.done (.ret .none)) ⟨h', g, d, t', os⟩) :
    wpAny (model prog w) A (Builtin.«object.__setattr__» ⟨[.ref x, .str name tk, v], []⟩) Q E ⟨h, g, d, t, os⟩ := by
  have ps := pass (.ref x)
  have kk : ∀ b u, h.get? b = some u → h.get? b = some u := fun _ _ z => z
  unfold Builtin.«object.__setattr__»
  repeat (first
    | rw [refuse_eq]
    | (rw [refuseLoop_ref, ps])
    | (with_reducible refine wpAny_loadPart_at hx ?_; rw [hc])
    | with_reducible refine wpAny_mroOf_exc hC ?_
    | refine hna _ _ _ _ kk ?_
    | wp_step)
  rw [hdn, if_neg (by simp [typeHasDict])]
  split
  · rename_i z
    cases z
  split
  · rename_i c z
    exact absurd z (hnc c)
  · have hx1 : (h.push { cls := .type "dict", data := .dict #[] }).get? x = some o := Heap.get?_push_of_some _ hx
    have hs : x ≠ h.objs.size := Nat.ne_of_lt (Heap.lt_size hx)
    refine wpAny_bind (wpAny_alloc' (wpAny_bind (wpAny_update' hx1 (wpAny_pure ?_))))
    have gd : ((h.push { cls := .type "dict", data := .dict #[] }).update x fun o => { cls := o.cls, dict := some h.objs.size, data := o.data, slots := o.slots }).get? h.objs.size = some { cls := .type "dict", data := .dict #[] } :=
      (Heap.get?_update_ne _ _ _ _ hs.symm).trans (Heap.get?_push_at rfl rfl)
    have nd : ((h.push { cls := .type "dict", data := .dict #[] }).update x fun o => { cls := o.cls, dict := some h.objs.size, data := o.data, slots := o.slots }).Ns h.objs.size (fun _ => none) := ⟨_, #[], _, gd, rfl, fun e he => absurd he (by simp), fun _ => rfl⟩
    show wpAny _ _ (storeInDict h.objs.size (.str name tk) name v) _ _ _
    unfold storeInDict newKeyGuard
    refine wpAny_bind (wpAny_pure (wpAny_bind (wpAny_nsSet1 (Heap.Ns1.of_empty nd) fun h' hn' sz => ?_)))
    obtain ⟨oD, esD, epD, hoD, hdD, hcD⟩ := hn'.count (Within.cons name v Within.nil)
    refine wpAny_bind (wpAny_lookBehind hoD (by rw [hdD]; exact pastItsLine_dict (Nat.le_trans hcD (by rw [List.length_cons, List.length_nil, sizeLine_eq]; omega))) ?_)
    wp_walk
    refine hq h' _ h.objs.size (Heap.get?_none_of_le (Nat.le_refl _)) hs.symm (Nat.le_refl _) ?_ hn' fun b u hb z => ?_
    · refine (sz.2 x hs).trans (Heap.get?_update_self _ hx1 ?_)
      have fr := (Heap.get?_some_iff.mp hx).2
      obtain ⟨oc, od, odt, osl⟩ := o
      cases odt <;> first | rfl | exact fr
    · exact (sz.2 b (Nat.ne_of_lt (Heap.lt_size z))).trans ((Heap.get?_update_ne _ _ _ _ hb).trans (Heap.get?_push_of_some _ z))

/-- the dict is there -/
theorem osa_more {o : Obj} {tk : Tok} {dx : Addr} {mA : Str → Option Value} {ns : List Str} {Q : Fin → Shared → Prop} (pass : ∀ self : Value, refuseLoop self "__setattr__" bm = pure ())
    (hC : h.get? C = some (excClassObj nm q C N bs bm true sn sub ab col dd k0 k1 k2 k3 k5 newId)) (hna : Sees (model prog w) h (typeLookup (.ref C) name) none)
    (hx : h.get? x = some o) (hc : o.cls = .ref C) (hdx : o.dict = some dx) (hns : h.Ns1 dx mA) (hw : Within mA ns) (hsz : ns.length < sizeLine)
    (hq : ∀ h' t', h'.Ns1 dx (fun y => if y = name then some v else mA y) → (∀ b u, b ≠ dx → h.get? b = some u → h'.get? b = some u) → Q (.done (.ret .none)) ⟨h', g, d, t', os⟩) :
    wpAny (model prog w) A (Builtin.«object.__setattr__» ⟨[.ref x, .str name tk, v], []⟩) Q E ⟨h, g, d, t, os⟩ := by
  have ps := pass (.ref x)
  have kk : ∀ b u, h.get? b = some u → h.get? b = some u := fun _ _ z => z
  unfold Builtin.«object.__setattr__»
  repeat (first
    | rw [refuse_eq]
    | (rw [refuseLoop_ref, ps])
    | (with_reducible refine wpAny_loadPart_at hx ?_; rw [hc])
    | with_reducible refine wpAny_mroOf_exc hC ?_
    | refine hna _ _ _ _ kk ?_
    | wp_step)
  rw [hdx]
  refine wpAny_pure ?_
  show wpAny _ _ (storeInDict dx (.str name tk) name v) _ _ _
  unfold storeInDict newKeyGuard
  refine wpAny_bind (wpAny_pure (wpAny_bind (wpAny_nsSet1 hns fun h' hn' sz => ?_)))
  obtain ⟨oD, esD, epD, hoD, hdD, hcD⟩ := hn'.count (Within.cons name v hw)
  refine wpAny_bind (wpAny_lookBehind hoD (by rw [hdD]; exact pastItsLine_dict (Nat.le_trans hcD (by rw [List.length_cons]; omega))) ?_)
  wp_walk
  exact hq h' _ hn' fun b u hb z => (sz.2 b hb).trans z

/-- up to the built-in __setattr__ -/
theorem set_at {o : Obj} {Q : Unit → Shared → Prop} (SF : StoreFacts B bmB sa owner) (cO : bm.contains (.type owner) = true)
    (hC : h.get? C = some (excClassObj nm q C N bs bm true sn sub ab col dd k0 k1 k2 k3 k5 newId)) (hsa : Sees (model prog w) h (typeLookup (.ref C) "__setattr__") (some (.builtin sa)))
    (hx : h.get? x = some o) (hc : o.cls = .ref C)
    (hq : ∀ tk t', wpAny (model prog w) A.in1 (Builtin.«object.__setattr__» ⟨[.ref x, .str name tk, v], []⟩) (fun fin s' => ∃ r, fin = .done (.ret r) ∧ Q () s') (fun _ _ => False) ⟨h, g, d, t', os⟩) :
    wpAny (model prog w) A (setAttr (.ref x) name v) Q E ⟨h, g, d, t, os⟩ := by
  have f3 := SF.slot.bind (.ref x)
  have c1 : (Value.ref C :: bm).contains (.type owner) = true := by rw [List.contains_cons, cO, Bool.or_true]
  have kk : ∀ b o, h.get? b = some o → h.get? b = some o := fun _ _ z => z
  unfold setAttr callSpecial? specialOf
  repeat (any_goals (first
    | assumption
    | (with_reducible refine wpAny_loadPart_at hx ?_; rw [hc])
    | refine hsa _ _ _ _ kk ?_
    | wp_step))
  refine codeAny_call_builtin SF.slot.plain SF.entry ?_
  show wpAny _ _ (checkBuiltinCall sa ⟨[.ref x, .str name t, v], []⟩) _ _ _
  have ha := SF.args (.ref x) (.str name t) v
  have go : wpAny (model prog w) A.in1 (Builtin.«object.__setattr__» ⟨[.ref x, .str name t, v], []⟩) (fun fin s' => match fin with
      | .done f => (fun r s' => match r with | .ok (.ret v) => wpAny (model prog w) A (pure (some v)) (fun a s' => wpAny (model prog w) A (match a with | some val => pure PUnit.unit | x => unsupported "internal:no-__setattr__") Q E s') E s' | .ok a => False | .error e => E e s') (Except.ok f) s'
      | .again c' => c'.quiet = true ∧ codeAny (model prog w) A c' (fun r s' => match r with | .ok (.ret v) => wpAny (model prog w) A (pure (some v)) (fun a s' => wpAny (model prog w) A (match a with | some val => pure PUnit.unit | x => unsupported "internal:no-__setattr__") Q E s') E s' | .ok a => False | .error e => E e s') s') (fun e s' => E e s') ⟨h, g, d, t + 1, os⟩ := by
    refine wpAny_mono (hq t (t + 1)) (fun fin s' z => ?_) fun _ _ z => z.elim
    obtain ⟨r, rfl, z⟩ := z
    exact wpAny_pure (wpAny_pure z)
  simp only [checkBuiltinCall, SF.kind, SF.split]
  refine wpAny_bind ?_
  unfold isInstance
  repeat (first
    | (with_reducible refine wpAny_loadPart_at hx ?_; rw [hc])
    | (with_reducible refine wpAny_isSubtype_exc hC ?_; rw [c1])
    | wp_step)
  cases hsig : Manifest.signature? sa with
  | none => exact wpAny_pure go
  | some sig =>
    simp only [argsOk, hsig] at ha
    have h2 : Bind.checkArgs sa sig ⟨[.ref x, .str name t, v], []⟩ = pure () := ha
    show wpAny _ _ (Bind.checkArgs sa sig ⟨[.ref x, .str name t, v], []⟩) _ _ _
    rw [h2]; exact wpAny_pure go
end
end Fly


set_option Elab.async false
set_option maxRecDepth 100000
set_option maxHeartbeats 4000000
/-! An attribute of an exception is read. -/
namespace Fly
open PySem
open Sem (wp)
open Builtin Builtin.ObjectAttr

section
variable {prog : Program} {w : World} {A : Around} {E : Value → Shared → Prop} {h : Heap} {g : Array GenState} {d : Drawn} {t : Nat} {os : OsState}
variable {nm q : Str} {C N x : Addr} {bs bm bmB : List Value} {hdct : Bool} {sn : List Str} {sub : List Value} {ab : Bool} {col : Option Bool} {dd : Option Addr} {k0 k1 k2 k3 k5 : Option Value} {B newId : String} {name : Str} {v : Value}

theorem oga_x {o : Obj} {tk : Tok} {dx : Addr} {mA : Str → Option Value} {vs : Array Value} {Q : Fin → Shared → Prop}
    (hC : h.get? C = some (excClassObj nm q C N bs bm true sn sub ab col dd k0 k1 k2 k3 k5 newId)) (hna : Sees (model prog w) h (typeLookup (.ref C) name) none)
    (hx : h.get? x = some o) (hc : o.cls = .ref C) (hd : o.data = .fields vs) (hdx : o.dict = some dx) (hns : h.Ns dx mA) (hv : mA name = some v) (ho : handedOut v = pure v) (hq : Q (.done (.ret v)) ⟨h, g, d, t, os⟩) :
    wpAny (model prog w) A (Builtin.«object.__getattribute__» ⟨[.ref x, .str name tk], []⟩) Q E ⟨h, g, d, t, os⟩ := by
  have kk : ∀ b u, h.get? b = some u → h.get? b = some u := fun _ _ z => z
  repeat (any_goals (first
    | assumption
    | (with_reducible refine wpAny_loadPart_at hx ?_; rw [hc])
    | refine hna _ _ _ _ kk ?_
    | wp_step))
  rw [hd]
  dsimp only
  unfold instanceDict
  repeat (any_goals (first
    | assumption
    | (with_reducible refine wpAny_loadPart_at hx ?_; rw [hc])
    | wp_step))
  rw [hdx]
  refine wpAny_pure ?_
  refine wpAny_nsGet hns ?_
  rw [hv]
  repeat (any_goals (first
    | assumption
    | wp_step))

theorem chk_ga {M : Model} {o : Obj} {nameV : Value} {Q : Unit → Shared → Prop} (hC : h.get? C = some (excClassObj nm q C N bs bm hdct sn sub ab col dd k0 k1 k2 k3 k5 newId)) (cB : bm.contains (.type "BaseException") = true)
    (hx : h.get? x = some o) (hc : o.cls = .ref C) (hq : Q () ⟨h, g, d, t, os⟩) : wpAny M A (checkBuiltinCall "BaseException.__getattribute__" ⟨[.ref x, nameV], []⟩) Q E ⟨h, g, d, t, os⟩ := by
  have f1 : builtinKind "BaseException.__getattribute__" = some .slot := by decide +kernel
  have f2 : splitId "BaseException.__getattribute__" = some ("BaseException", "__getattribute__") := by decide +kernel
  have c1 : (Value.ref C :: bm).contains (.type "BaseException") = true := by rw [List.contains_cons, cB]; rfl
  have ha := F.args_bexc_ga (.ref x) nameV
  simp only [checkBuiltinCall, f1, f2]
  refine wpAny_bind ?_
  unfold isInstance
  repeat (first
    | (with_reducible refine wpAny_loadPart_at hx ?_; rw [hc])
    | (with_reducible refine wpAny_isSubtype_exc hC ?_; rw [c1])
    | wp_step)
  exact hq

/-- x.name -/
theorem get_x {o : Obj} {dx : Addr} {mA : Str → Option Value} {vs : Array Value} {expr : Bool} {Q : Value → Shared → Prop} (FB : ExcAttrBase B bmB) (cB : bm.contains (.type "BaseException") = true)
    (hC : h.get? C = some (excClassObj nm q C N bs bm true sn sub ab col dd k0 k1 k2 k3 k5 newId)) (hna : Sees (model prog w) h (typeLookup (.ref C) name) none)
    (hga : Sees (model prog w) h (typeLookup (.ref C) "__getattribute__") (some (.builtin "BaseException.__getattribute__"))) (hgt : Sees (model prog w) h (typeLookup (.ref C) "__getattr__") none)
    (hx : h.get? x = some o) (hc : o.cls = .ref C) (hd : o.data = .fields vs) (hdx : o.dict = some dx) (hns : h.Ns dx mA) (hv : mA name = some v) (ho : handedOut v = pure v) (hq : Q v ⟨h, g, d, t + 1, os⟩) :
    wpAny (model prog w) A (getAttr (.ref x) name expr) Q E ⟨h, g, d, t, os⟩ := by
  have f3 := FB.ga.bind (.ref x)
  have z0 : (expr && onTheHeap (Value.builtin "BaseException.__getattribute__")) = false := by cases expr <;> rfl
  have z2 : (Value.builtin "BaseException.__getattribute__" == Value.builtin "object.__getattribute__") = false := by decide +kernel
  have z1 : (onTheHeap (Value.ref C) && Value.builtin "BaseException.__getattribute__" == Value.builtin "object.__getattribute__") = false := by rw [z2]; rfl
  have kk : ∀ b u, h.get? b = some u → h.get? b = some u := fun _ _ z => z
  unfold getAttr
  refine wpAny_bind (wpAny_mkText ?_)
  have by_ : ∀ tk, wpAny (model prog w) A (getAttrBy (.ref x) (.str name tk) true expr) Q E ⟨h, g, d, t + 1, os⟩ := by
    intro tk
    repeat (any_goals (first
      | assumption
      | (with_reducible refine wpAny_loadPart_at hx ?_; rw [hc])
      | (with_reducible refine hga _ _ _ _ kk ?_)
      | (with_reducible refine hgt _ _ _ _ kk ?_)
      | wp_step))
    refine codeAny_call_builtin FB.ga.plain F.entry_bexc_ga ?_
    show wpAny _ _ (checkBuiltinCall "BaseException.__getattribute__" ⟨[.ref x, .str name tk], []⟩) _ _ _
    refine chk_ga hC cB hx hc ?_
    show wpAny _ _ (Builtin.«object.__getattribute__» ⟨[.ref x, .str name tk], []⟩) _ _ _
    refine oga_x hC hna hx hc hd hdx hns hv ho ?_
    repeat (any_goals (first
      | assumption
      | wp_step))
  exact by_ _
end
end Fly


set_option Elab.async false
set_option maxRecDepth 100000
set_option maxHeartbeats 4000000
/-! A made exception is raised. -/
namespace Fly
open PySem
open Sem (wp)

section
variable {M : Model} {A : Around} {E : Value → Shared → Prop} {env : Env} {s : Shared}
variable {nm q : Str} {C N : Addr} {bs bm : List Value} {hdct : Bool} {sn : List Str} {sub : List Value} {ab : Bool} {col : Option Bool} {dd : Option Addr} {k0 k1 k2 k3 k5 : Option Value} {newId : String}

theorem raise_x {x : Sem Value} {Q : Flow → Shared → Prop} (cB : bm.contains (.type "BaseException") = true) (hh : A.handled = none)
    (h : wpAny M A x (fun v s1 => ∃ e t0 dct, v = .ref e ∧ s1.heap.get? C = some (excClassObj nm q C N bs bm hdct sn sub ab col dd k0 k1 k2 k3 k5 newId) ∧
      s1.heap.get? e = some { cls := .ref C, dict := dct, data := .fields #[.ref t0, .none, .none, .none, .bool false, .none] } ∧ E (.ref e) s1) E s) :
    wpAny M A (raiseStmt env (some x) none) Q E s := by
  have c1 : (Value.ref C :: bm).contains (.type "BaseException") = true := by rw [List.contains_cons, cB, Bool.or_true]
  unfold raiseStmt
  refine wpAny_bind (wpAny_mono h (fun v s1 h1 => ?_) fun _ _ z => z)
  obtain ⟨e, t0, dct, rfl, hC, he, hE⟩ := h1
  obtain ⟨hp, g, d, tk, os⟩ := s1
  repeat (first
    | with_reducible refine wpAny_loadPart_at he ?_
    | with_reducible refine wpAny_loadPart_at hC ?_
    | (with_reducible refine wpAny_isSubtype_exc hC ?_; rw [c1])
    | wp_step)
  exact wpAny_raiseNew_none hh hE

theorem exec_raise {e : Expr} {pos : Pos} {Q : Flow → Shared → Prop} (cB : bm.contains (.type "BaseException") = true) (hh : A.handled = none)
    (h : wpAny M A (eval e env) (fun v s1 => ∃ x t0 dct, v = .ref x ∧ s1.heap.get? C = some (excClassObj nm q C N bs bm hdct sn sub ab col dd k0 k1 k2 k3 k5 newId) ∧
      s1.heap.get? x = some { cls := .ref C, dict := dct, data := .fields #[.ref t0, .none, .none, .none, .bool false, .none] } ∧ E (.ref x) s1) E s) :
    wpAny M A (exec (.Raise (some e) none pos) env) Q E s := by
  rw [arm_exec_Raise]
  first
    | exact wpAny_bind (wpAny_standAt (raise_x cB hh (wpAny_bind (wpAny_mono h (fun v s3 h3 => wpAny_bind (wpAny_standAt (wpAny_pure h3))) fun _ _ z => z))))
    | (simp only [evalOpt, Option.map]; exact wpAny_bind (wpAny_standAt (raise_x cB hh (wpAny_bind (wpAny_mono h (fun v s3 h3 => wpAny_bind (wpAny_standAt (wpAny_pure h3))) fun _ _ z => z)))))
end
end Fly


set_option Elab.async false
set_option maxRecDepth 100000
set_option maxHeartbeats 4000000
/-! except C as n, where the class fits and the suite raises nothing. -/
namespace Fly
open PySem
open Sem (wp)

section
variable {prog : Program} {w : World} {A : Around} {E : Value → Shared → Prop} {s : Shared} {env : Env}

theorem handle_as {e : Addr} {t : Expr} {n : Str} {b0 : Stmt} {suite : List Stmt} {pos : Pos} {rest : List ExceptHandler} {Q : Flow → Shared → Prop}
    (h : wpAny (model prog w) (A.mark (some (.ref e))) (eval t env) (fun c s1 => Sees (model prog w) s1.heap (excMatches (.ref e) c) true ∧
      wpAny (model prog w) (A.mark (some (.ref e))) (setFlight (.ref e) none) (fun _ s2 =>
        wpAny (model prog w) (A.mark (some (.ref e))) (storeName env n (.ref e)) (fun _ s3 =>
          wpAny (model prog w) (A.mark (some (.ref e))) (execs (b0 :: suite) env) (fun f s4 => wpAny (model prog w) A (do bindName env n .none; unbindBehindTheSuite env n pos) (fun _ s5 => Q f s5) (fun _ _ => False) s4) (fun _ _ => False) s3) (fun _ _ => False) s2) (fun _ _ => False) s1) (fun _ _ => False) s) :
    wpAny (model prog w) A (handleBy (.ref e) env (.ExceptHandler (some t) (some n) (b0 :: suite) pos :: rest)) Q E s := by
  refine wpAny_handleBy_cons (codeAny_handlers_test (wpAny_mono h (fun c s1 h1 => ?_) fun _ _ z => z.elim)) (by intro q; cases q)
  obtain ⟨hm, h1⟩ := h1
  refine hm _ _ _ _ (fun _ _ z => z) ?_
  refine codeAny_handlers_suite_as (wpAny_mono h1 (fun _ s2 h2 => wpAny_mono h2 (fun _ s3 h3 => wpAny_mono h3 (fun f s4 h4 => ?_) fun _ _ z => z.elim) fun _ _ z => z.elim) fun _ _ z => z.elim)
  exact wpAny_mono h4 (fun _ _ z => z) fun _ _ z => z.elim

/-- the name is gone behind the suite -/
theorem gone {n : Str} {pos : Pos} {m : Str → Option Value} {Q : Unit → Shared → Prop} (hl : env.kindOf n = some .local) (hn : s.heap.Ns env.locals m)
    (hp : (env.scope.kind == .class || (env.scope.kind == .module && env.locals != env.globals)) = false)
    (h : ∀ h' u, h'.Ns env.locals (fun x => if x = n then u else m x) → Heap.SameBut env.locals s.heap h' → Q () { s with heap := h', toks := s.toks + 1 }) :
    wpAny (model prog w) A (do bindName env n .none; unbindBehindTheSuite env n pos) Q E s := by
  refine wpAny_bind (wpAny_bindName (wpAny_storeName_local hl hn (fun h1 hn1 hs1 => ?_) hp))
  unfold unbindBehindTheSuite
  refine wpAny_onRaise (wpAny_mono (wpAny_unbindName_local (E := fun _ _ => False) (v := .none) hl hn1 (by simp) hp fun h2 u hn2 hs2 => ?_) (fun _ _ z => z) fun _ _ z => z.elim)
  refine h h2 u ?_ ?_
  · obtain ⟨o, es, ep, a, b, c, e⟩ := hn2
    refine ⟨o, es, ep, a, b, c, fun y => ?_⟩
    rw [e y]
    by_cases q : y = n <;> simp [q]
  · exact hs1.trans hs2
end
end Fly


set_option Elab.async false
set_option maxRecDepth 100000
set_option maxHeartbeats 4000000
/-! The class of an exception, by its attribute. -/
namespace Fly
open PySem
open Sem (wp)

section
variable {prog : Program} {w : World} {A : Around} {E : Value → Shared → Prop} {h : Heap} {g : Array GenState} {d : Drawn} {t : Nat} {os : OsState}
variable {nm q : Str} {C N x : Addr} {bs bm bmB : List Value} {hdct : Bool} {sn : List Str} {sub : List Value} {ab : Bool} {col : Option Bool} {dd : Option Addr} {k0 k1 k2 k3 k5 : Option Value} {B newId : String} {o : Obj}

theorem cls_get {R : Result → Shared → Prop} (cO : bm.contains (.type "object") = true) (hC : h.get? C = some (excClassObj nm q C N bs bm hdct sn sub ab col dd k0 k1 k2 k3 k5 newId)) (hx : h.get? x = some o) (hc : o.cls = .ref C) (hq : R (.ok (.ret (.ref C))) ⟨h, g, d, t, os⟩) :
    codeAny (model prog w) A (.call (.builtin "getset_descriptor.__get__") ⟨[.builtin "object.__class__", .ref x, .ref C], []⟩) R ⟨h, g, d, t, os⟩ := by
  have f5 : (⟨h, g, d, t, os⟩ : Shared).TypeIs (.builtin "object.__class__") "getset_descriptor" := F.typeOf_object_class
  have c1 : (Value.ref C :: bm).contains (.type (".".intercalate ("object.__class__".cutAt '.').dropLast)) = true := by rw [F.owner_object_class, List.contains_cons, cO, Bool.or_true]
  refine codeAny_call_builtin F.slot_gs_get.plain F.entry_gs_get (F.slot_gs_get.check _ _ _ _ _ _ _ _ f5 (F.args_gs_get _ _ _) ?_)
  repeat (any_goals (first
    | assumption
    | (with_reducible refine wpAny_loadPart_at hx ?_; rw [hc])
    | (with_reducible refine wpAny_isSubtype_exc hC ?_; rw [c1])
    | wp_step))
  refine ⟨Code.quiet_builtin _ (by decide +kernel), codeAny_builtin F.entry_object_class ?_⟩
  repeat (any_goals (first
    | assumption
    | (with_reducible refine wpAny_loadPart_at hx ?_; rw [hc])
    | wp_step))

theorem cls_entry {tk : Tok} {Q : Fin → Shared → Prop} (cO : bm.contains (.type "object") = true) (hC : h.get? C = some (excClassObj nm q C N bs bm hdct sn sub ab col dd k0 k1 k2 k3 k5 newId)) (hcl : Sees (model prog w) h (typeLookup (.ref C) "__class__") (some (.builtin "object.__class__")))
    (hx : h.get? x = some o) (hc : o.cls = .ref C) (hq : Q (.done (.ret (.ref C))) ⟨h, g, d, t, os⟩) : wpAny (model prog w) A (Builtin.«object.__getattribute__» ⟨[.ref x, .str "__class__" tk], []⟩) Q E ⟨h, g, d, t, os⟩ := by
  have f5 : (⟨h, g, d, t, os⟩ : Shared).TypeIs (.builtin "object.__class__") "getset_descriptor" := F.typeOf_object_class
  have f4 := F.typeOf_object_class
  have f6 := F.slot_gs_get.lookup
  have f7 := F.slot_gs_set.lookup
  have kk : ∀ b u, h.get? b = some u → h.get? b = some u := fun _ _ z => z
  repeat (any_goals (first
    | assumption
    | (with_reducible refine wpAny_loadPart_at hx ?_; rw [hc])
    | (with_reducible refine hcl _ _ _ _ kk ?_)
    | wp_step))
  refine cls_get cO hC hx hc ?_
  repeat (any_goals (first | assumption | wp_step))

theorem cls_attr {Q : Option Value → Shared → Prop} (FB : ExcAttrBase B bmB) (cB : bm.contains (.type "BaseException") = true) (cO : bm.contains (.type "object") = true)
    (hC : h.get? C = some (excClassObj nm q C N bs bm hdct sn sub ab col dd k0 k1 k2 k3 k5 newId)) (hcl : Sees (model prog w) h (typeLookup (.ref C) "__class__") (some (.builtin "object.__class__")))
    (hga : Sees (model prog w) h (typeLookup (.ref C) "__getattribute__") (some (.builtin "BaseException.__getattribute__"))) (hgt : Sees (model prog w) h (typeLookup (.ref C) "__getattr__") none)
    (hx : h.get? x = some o) (hc : o.cls = .ref C) (hq : Q (some (.ref C)) ⟨h, g, d, t + 1, os⟩) : wpAny (model prog w) A (getAttr? (.ref x) "__class__") Q E ⟨h, g, d, t, os⟩ := by
  have f3 := FB.ga.bind (.ref x)
  have z0 : (false && onTheHeap (Value.builtin "BaseException.__getattribute__")) = false := rfl
  have z2 : (Value.builtin "BaseException.__getattribute__" == Value.builtin "object.__getattribute__") = false := by decide +kernel
  have z1 : (onTheHeap (Value.ref C) && Value.builtin "BaseException.__getattribute__" == Value.builtin "object.__getattribute__") = false := by rw [z2]; rfl
  have kk : ∀ b u, h.get? b = some u → h.get? b = some u := fun _ _ z => z
  have by_ : ∀ {tk : Tok} {Q : Value → Shared → Prop} {E : Value → Shared → Prop} {t' : Nat}, Q (.ref C) ⟨h, g, d, t', os⟩ → wpAny (model prog w) A (getAttrBy (.ref x) (.str "__class__" tk) false) Q E ⟨h, g, d, t', os⟩ := by
    intro tk Q E t' hq
    repeat (any_goals (first
      | assumption
      | (with_reducible refine wpAny_loadPart_at hx ?_; rw [hc])
      | (with_reducible refine hga _ _ _ _ kk ?_)
      | (with_reducible refine hgt _ _ _ _ kk ?_)
      | wp_step))
    refine codeAny_call_builtin FB.ga.plain F.entry_bexc_ga ?_
    show wpAny _ _ (checkBuiltinCall "BaseException.__getattribute__" ⟨[.ref x, .str "__class__" tk], []⟩) _ _ _
    refine chk_ga hC cB hx hc ?_
    show wpAny _ _ (Builtin.«object.__getattribute__» ⟨[.ref x, .str "__class__" tk], []⟩) _ _ _
    refine cls_entry cO hC hcl hx hc ?_
    repeat (any_goals (first
      | assumption
      | wp_step))
  unfold getAttr? getAttrBy?
  repeat (any_goals (first | assumption | with_reducible apply by_ | wp_step))
end
end Fly


set_option Elab.async false
set_option maxRecDepth 100000
set_option maxHeartbeats 4000000
/-! Exceptions of own classes over the layer: the object, the flight through the frames. -/
namespace L2
open PySem PySem.Spec PyProof.Rows Fly

/-- an exception that was made and not raised yet; one that was caught -/
def XNew (e C : Addr) (dct : Option Addr) : HO := .ext fun h => ∃ t0, h.get? e = some { cls := .ref C, dict := dct, data := .fields #[.ref t0, .none, .none, .none, .bool false, .none] }
def XOld (e C : Addr) (dct : Option Addr) : HO := .ext fun h => ∃ oe vs, h.get? e = some oe ∧ oe.cls = .ref C ∧ oe.dict = dct ∧ oe.data = .fields vs
/-- the exception and its fields -/
def XAs (H : Hp) (e C : Addr) (fs : List (Str × V)) : Prop := ∃ dx, (H e = some (XNew e C (some dx)) ∨ H e = some (XOld e C (some dx))) ∧ H dx = some (.xd fs)

section
variable {P : Program} {w : World} {H H' : Hp} {h h' : Heap} {e C dx : Addr} {dct : Option Addr}
theorem xnew_ok {t0 : Addr} (q : h.get? e = some { cls := .ref C, dict := dct, data := .fields #[.ref t0, .none, .none, .none, .bool false, .none] }) : ObjOk P w H h e (XNew e C dct) :=
  ⟨⟨t0, q⟩, ⟨_, q⟩, fun _ _ ⟨t, z⟩ k => ⟨t, k _ z⟩⟩
theorem xold_ok {oe : Obj} {vs : Array Value} (q : h.get? e = some oe) (hc : oe.cls = .ref C) (hd : oe.dict = dct) (hv : oe.data = .fields vs) : ObjOk P w H h e (XOld e C dct) :=
  ⟨⟨oe, vs, q, hc, hd, hv⟩, ⟨_, q⟩, fun _ _ ⟨o, v, z, r⟩ k => ⟨o, v, k _ z, r⟩⟩
theorem xnew_get (x : HOk P w H h) (q : H e = some (XNew e C dct)) : ∃ t0, h.get? e = some { cls := .ref C, dict := dct, data := .fields #[.ref t0, .none, .none, .none, .bool false, .none] } := (x e _ q).1
theorem xold_get (x : HOk P w H h) (q : H e = some (XOld e C dct)) : ∃ oe vs, h.get? e = some oe ∧ oe.cls = .ref C ∧ oe.dict = dct ∧ oe.data = .fields vs := (x e _ q).1
end

/-- the picture without one object -/
def del (H : Hp) (e : Addr) : Hp := fun b => if b = e then none else H b
theorem del_same {H : Hp} {e : Addr} : del H e e = none := if_pos rfl
theorem del_ne {H : Hp} {e b : Addr} (h : b ≠ e) : del H e b = H b := if_neg h
/-- what was there is there as it was -/
def Sub (H H' : Hp) : Prop := ∀ b o, H b = some o → H' b = some o

/-- how an exception lies behind a call: B, what of the heap stays for good while it flies -/
def CXx (P : Program) (w : World) : CXT := fun outer H s E ev s' => ∃ (e C : Addr) (dx : Option Addr) (H' : Hp) (B : Heap), ev = .ref e ∧ s'.os = s.os ∧ AllBare s'.gens ∧ XAt B outer e (.ref C) dx (some .none) s'.heap ∧ HOk P w H' B ∧ H' e = none ∧
  s.heap.get? e = none ∧ Un (frs outer) [] H H' s.heap s'.heap ∧ (∀ b o, s.heap.get? b = some o → b ∉ frs outer → ∃ o', B.get? b = some o' ∧ (H b = none → o' = o)) ∧ E (.ref C) dx H'

theorem no0 {b : Addr} : b ∉ ([] : List Addr) := by simp

/-- one step further out -/
theorem fly_out {X : Cx} {pins : List (Addr × Obj)} {σ : St} {H H' : Hp} {s s' : Shared} {B h2 : Heap} {e C : Addr} {dx : Option Addr} {l : List Env} (I : Inv X pins σ H s) (hex : X.ex = []) (hst : X.stack = X.env :: X.outer) (hfr : X.env.frame = some X.env.locals)
    (xa : XAt B X.stack e (.ref C) dx (some .none) s'.heap) (x2 : XAt B l e (.ref C) dx (some .none) h2) (up : s'.heap.UpToSlots h2) (hn : s.heap.get? e = none)
    (un : Un (frs X.stack) [] H H' s.heap s'.heap) (old : ∀ b o, s.heap.get? b = some o → b ∉ frs X.stack → ∃ o', B.get? b = some o' ∧ (H b = none → o' = o)) :
    X.s₀.heap.get? e = none ∧ Un (frs X.outer) [] X.H₀ H' X.s₀.heap h2 ∧ (∀ b o, X.s₀.heap.get? b = some o → b ∉ frs X.outer → ∃ o', B.get? b = some o' ∧ (X.H₀ b = none → o' = o)) := by
  have nx : ∀ b : Addr, b ∉ X.ex := fun b => by rw [hex]; exact no0
  have hfs : frs X.stack = X.env.locals :: frs X.outer := by rw [hst]; show List.filterMap _ (_ :: _) = _; rw [List.filterMap_cons, hfr]; rfl
  have nl : ∀ b o, X.s₀.heap.get? b = some o → b ≠ X.env.locals := fun b o q => Nat.ne_of_lt (Nat.lt_of_lt_of_le (Heap.lt_size q) I.ok.above)
  have out : ∀ b o, X.s₀.heap.get? b = some o → b ∉ frs X.outer → b ∉ frs X.stack := fun b o q hb z => by
    rw [hfs] at z
    rcases List.mem_cons.mp z with z | z
    · exact nl b o q z
    · exact hb z
  have ins : ∀ b, b ∈ frs X.outer → b ∈ frs X.stack := fun b hb => by rw [hfs]; exact List.mem_cons_of_mem _ hb
  have fr : ∀ b o, b ∈ frs X.outer → s'.heap.get? b = some o → ∃ sl, h2.get? b = some { o with slots := sl } := fun b o hb q => by
    obtain ⟨_, o', q', nf⟩ := xa.frames.mem (ins b hb)
    rw [q] at q'; cases q'
    exact up b o q nf
  have old2 : ∀ b o, X.s₀.heap.get? b = some o → b ∉ frs X.outer → ∃ o', B.get? b = some o' ∧ (X.H₀ b = none → o' = o) := fun b o q hb => by
    obtain ⟨o1, q1⟩ := I.base.there b o q (nx b)
    obtain ⟨o2, q2, k2⟩ := old b o1 q1 (out b o q hb)
    refine ⟨o2, q2, fun n => ?_⟩
    have q3 := I.base.keep b o q n hb (nx b)
    rw [q1] at q3; cases q3
    exact k2 (I.base.free b o q n (nx b))
  refine ⟨?_, ⟨fun b o q n hb _ => ?_, fun b o q n hb _ => ?_, fun b o q n _ => ?_, fun b o q _ => ?_, fun b xs q => un.tups b xs (I.base.tups b xs q), fun b o u q => un.frzs b o u (I.base.frzs b o u q), fun b ps q => ?_⟩, old2⟩
  · cases q : X.s₀.heap.get? e with
    | none => rfl
    | some o =>
      obtain ⟨o1, q1⟩ := I.base.there e o q (nx e)
      rw [hn] at q1; cases q1
  · obtain ⟨o', q', k'⟩ := old2 b o q hb
    rw [k' n] at q'
    exact x2.stays b o q'
  · obtain ⟨sl1, q1⟩ := I.base.slot b o q n hb (nx b)
    obtain ⟨sl2, q2⟩ := un.slot b _ q1 (I.base.free b o q n (nx b)) (ins b hb) no0
    obtain ⟨sl3, q3⟩ := fr b _ hb q2
    exact ⟨sl3, q3⟩
  · obtain ⟨o1, q1⟩ := I.base.there b o q (nx b)
    exact un.free b o1 q1 (I.base.free b o q n (nx b)) no0
  · by_cases hb : b ∈ frs X.outer
    · obtain ⟨o1, q1⟩ := I.base.there b o q (nx b)
      obtain ⟨o2, q2⟩ := un.there b o1 q1 no0
      obtain ⟨sl, q3⟩ := fr b o2 hb q2
      exact ⟨_, q3⟩
    · obtain ⟨o', q', _⟩ := old2 b o q hb
      exact ⟨o', x2.stays b o' q'⟩
  · obtain ⟨m1, q1⟩ := I.base.tbls b ps q
    obtain ⟨m2, q2⟩ := un.tbls b _ q1
    exact ⟨m1 ++ m2, by rw [q2, Array.append_assoc]⟩

section
variable {P : Program} {w : World} {K : PySem.W.Frag} {mg : Str → Option Value} {base : Heap} {N : List Str} {qual : Str} {scope : Scope} {f : Addr} {cd : Value} {A : Around} {outer : List Env} {s0 : Shared} {H0 : Hp} {E : XK}
/-- a callee's exception leaves this def too -/
theorem passX : Passes (CXx P w) (cxOf (CXx P w) P w K mg base N qual scope f cd A outer s0 H0 E) E := by
  intro pins σ H s ev s' I hx
  obtain ⟨e, C, dx, H', B, rfl, os, bare, xa, hok, he, hn, un, old, hE⟩ := hx
  refine Fly.leave (s := s') I.ok.frames rfl xa (.inr rfl) fun h2 x2 up => ?_
  obtain ⟨z1, z2, z3⟩ := fly_out I rfl rfl rfl xa x2 up hn un old
  exact ⟨e, C, dx, H', B, rfl, os.trans I.os, bare, x2, hok, he, z1, z2, z3, hE⟩

/-- frames, over another base -/
theorem frames_re {h b1 b2 : Heap} : ∀ {l : List Env}, h.FunFrames b1 l → (∀ L ∈ frs l, b2.get? L = none) → h.FunFrames b2 l
  | [], _, _ => trivial
  | env :: l, ⟨k, ⟨L, o, hf, _, ho, hd⟩, r⟩, n => by
    have e : frs (env :: l) = L :: frs l := by show List.filterMap _ (_ :: _) = _; rw [List.filterMap_cons, hf]; rfl
    rw [e] at n
    exact ⟨k, ⟨L, o, hf, n L (List.mem_cons_self ..), ho, hd⟩, frames_re r fun L' z => n L' (List.mem_cons_of_mem _ z)⟩

/-- an exception that was made here is raised here -/
theorem raiseX {pins : List (Addr × Obj)} {σ : St} {H : Hp} {s : Shared} {e C : Addr} {dx : Option Addr} (I : Inv (cxOf (CXx P w) P w K mg base N qual scope f cd A outer s0 H0 E) pins σ H s) (he : H e = some (XNew e C dx)) (h0 : H0 e = none)
    (hE : E (.ref C) dx (del H e)) : (cxOf (CXx P w) P w K mg base N qual scope f cd A outer s0 H0 E).xe (.ref e) s := by
  obtain ⟨t0, q⟩ := xnew_get I.hok he
  have hs : ∀ o, s0.heap.get? e = some o → False := fun o z => by
    have := I.base.free e o z h0 no0
    rw [he] at this; cases this
  have hs0 : s0.heap.get? e = none := by
    cases z : s0.heap.get? e with
    | none => rfl
    | some o => exact (hs o z).elim
  let st := envOfC qual scope s0.heap.objs.size f cd :: outer
  let M : Hp := fun b => if b = e ∨ b ∈ frs st then some (.own 0) else none
  have Mn : ∀ {b}, b ≠ e → b ∉ frs st → M b = none := fun h1 h2 => if_neg fun z => z.elim h1 h2
  have Me : M e ≠ none := by show (if e = e ∨ _ then _ else _) ≠ none; rw [if_pos (.inl rfl)]; simp
  have Mf : ∀ b ∈ frs st, M b ≠ none := fun b hb => by show (if b = e ∨ b ∈ frs st then _ else _) ≠ none; rw [if_pos (.inr hb)]; simp
  have hid : ∀ b, M b ≠ none → (hidT s.heap M).get? b = none := fun b n => by
    cases z : (hidT s.heap M).get? b with
    | none => rfl
    | some o => exact absurd (of_hidT z).2 n
  have stay : (hidT s.heap M).StaysIn s.heap := fun b o z => (of_hidT z).1
  have fr : s.heap.FunFrames (hidT s.heap M) st := frames_re I.stack fun L hL => hid L (Mf L hL)
  have xa : XAt (hidT s.heap M) st e (.ref C) dx none s.heap := ⟨stay, hid e Me, fr, _, _, q, rfl, rfl, rfl, (by show 1 < 6; decide), rfl⟩
  have trk : ∀ b o, H b = some o → b ∉ frs st := fun b o z hb => by
    have := I.stkFree b hb
    rw [z] at this; cases this
  have hok : HOk P w (del H e) (hidT s.heap M) := fun b o z => by
    by_cases hb : b = e
    · subst hb; rw [del_same] at z; cases z
    · rw [del_ne hb] at z
      refine (I.hok b o z).stay (fun c u hc y => hidT_get y ?_) (fun c y => ?_) fun c xs y => ?_
      · rcases hc with rfl | hc
        · exact Mn hb (trk _ _ z)
        · exact Mn (fun w => by rw [w, he] at hc; cases hc) (trk _ _ hc)
      · rw [del_ne fun w => by rw [w, he] at y; cases y]; exact y
      · rw [del_ne fun w => by rw [w, he] at y; cases y]; exact y
  have nb : ∀ b o, s0.heap.get? b = some o → b ≠ e := fun b o z w => hs o (w ▸ z)
  have nl : ∀ b o, s0.heap.get? b = some o → b ≠ s0.heap.objs.size := fun b o z => Nat.ne_of_lt (Heap.lt_size z)
  have hfs : frs st = s0.heap.objs.size :: frs outer := rfl
  have out : ∀ b o, s0.heap.get? b = some o → b ∉ frs outer → b ∉ frs st := fun b o z hb y => by
    rw [hfs] at y
    rcases List.mem_cons.mp y with y | y
    · exact nl b o z y
    · exact hb y
  have old : ∀ b o, s0.heap.get? b = some o → b ∉ frs outer → ∃ o', (hidT s.heap M).get? b = some o' ∧ (H0 b = none → o' = o) := fun b o z hb => by
    obtain ⟨o1, z1⟩ := I.base.there b o z no0
    refine ⟨o1, hidT_get z1 (Mn (nb b o z) (out b o z hb)), fun n => ?_⟩
    have := I.base.keep b o z n hb no0
    rw [z1] at this; cases this; rfl
  refine Fly.leave (s := s) I.ok.frames rfl xa (.inl rfl) fun h2 x2 up => ?_
  refine ⟨e, C, dx, del H e, _, rfl, I.os, I.bare, x2, hok, del_same, hs0, ⟨fun b o z n hb _ => ?_, fun b o z n hb _ => ?_, fun b o z n _ => ?_, fun b o z _ => ?_, fun b xs z => ?_, fun b o u z => ?_, fun b ps z => ?_⟩, old, hE⟩
  · obtain ⟨o', z', k'⟩ := old b o z hb
    rw [k' n] at z'
    exact x2.stays b o z'
  · obtain ⟨sl, z1⟩ := I.base.slot b o z n hb no0
    obtain ⟨_, o', z', nf⟩ := fr.mem (b := b) (by show b ∈ frs st; rw [hfs]; exact List.mem_cons_of_mem _ hb)
    rw [z1] at z'; cases z'
    obtain ⟨sl2, z2⟩ := up b _ z1 nf
    exact ⟨sl2, z2⟩
  · rw [del_ne (nb b o z)]; exact I.base.free b o z n no0
  · by_cases hb : b ∈ frs outer
    · obtain ⟨o1, z1⟩ := I.base.there b o z no0
      obtain ⟨_, o', z', nf⟩ := fr.mem (b := b) (by show b ∈ frs st; rw [hfs]; exact List.mem_cons_of_mem _ hb)
      rw [z1] at z'; cases z'
      obtain ⟨sl2, z2⟩ := up b _ z1 nf
      exact ⟨_, z2⟩
    · obtain ⟨o', z', _⟩ := old b o z hb
      exact ⟨o', x2.stays b o' z'⟩
  · have z1 := I.base.tups b xs z
    rw [del_ne fun w => by rw [w, he] at z1; cases z1]; exact z1
  · have z1 := I.base.frzs b o u z
    rw [del_ne fun w => by rw [w, he] at z1; cases z1]; exact z1
  · obtain ⟨m, z1⟩ := I.base.tbls b ps z
    exact ⟨m, by rw [del_ne fun w => by rw [w, he] at z1; cases z1]; exact z1⟩
end
end L2


set_option Elab.async false
set_option maxRecDepth 100000
set_option maxHeartbeats 4000000
/-! Exceptions over the layer: made, given fields, read. -/
namespace L2
open PySem PySem.Spec PyProof.Rows Fly

theorem upd_id {H : Hp} {a : Addr} {o : HO} (h : H a = some o) : upd H a o = H := by
  funext b; unfold upd; split
  · rename_i q; rw [q, h]
  · rfl

abbrev bmV : List Value := [.type "ValueError", .type "Exception", .type "BaseException", .type "object"]
structure XTail (bm : List Value) : Prop where
  hV : bm.contains (.type "ValueError") = true
  hA : bm.contains (.type "AttributeError") = false
  hN : bm.contains (.type "NameError") = false
  hB : bm.contains (.type "BaseException") = true
  hO : bm.contains (.type "object") = true
  pass : ∀ self : Value, refuseLoop self "__setattr__" bm = pure ()
theorem xtail0 : XTail bmV := ⟨by decide, by decide, by decide, by decide, by decide, PySem.F.store_ValueError.passes⟩
theorem xtail1 (c : Addr) : XTail (.ref c :: bmV) := ⟨by rw [List.contains_cons, xtail0.hV, Bool.or_true], by rw [List.contains_cons, xtail0.hA]; rfl, by rw [List.contains_cons, xtail0.hN]; rfl, by rw [List.contains_cons, xtail0.hB, Bool.or_true],
  by rw [List.contains_cons, xtail0.hO, Bool.or_true], fun self => by rw [refuseLoop_ref]; exact xtail0.pass self⟩

/-- what of the text an exception's class must have -/
structure XCls (K : PySem.W.Frag) (C : Addr) : Prop where
  obj : ∃ nm q N bs bm sn sub ab col dd k0 k1 k2 k3 k5, K.lookup C = some (excClassObj nm q C N bs bm true sn sub ab col dd k0 k1 k2 k3 k5 "ValueError.__new__") ∧ XTail bm
  sa : PySem.W.findIn K (.ref C) "__setattr__" = some (some (.builtin "object.__setattr__"))
  ga : PySem.W.findIn K (.ref C) "__getattribute__" = some (some (.builtin "BaseException.__getattribute__"))
  gt : PySem.W.findIn K (.ref C) "__getattr__" = some none
  kp : PySem.W.keepIn K (.ref C) = true

section
variable {X : Cx} {pins : List (Addr × Obj)} {σ : St} {H : Hp} {s : Shared} {e C : Addr} {dct : Option Addr}

/-- its record changed, seen from outside it is the same -/
theorem Inv.xsame {h' : Heap} {t1 : Addr} (I : Inv X pins σ H s) (he : H e = some (XNew e C dct)) (kp : ∀ b o, b ≠ e → s.heap.get? b = some o → h'.get? b = some o)
    (hq : h'.get? e = some { cls := .ref C, dict := dct, data := .fields #[.ref t1, .none, .none, .none, .bool false, .none] }) {t' : Nat} : Inv X pins σ H { s with heap := h', toks := t' } := by
  have := I.write (x := e) (e := e) (o := XNew e C dct) (t' := t') (h' := h') (by rw [he]; exact True.intro) (.inl rfl) kp ⟨_, hq⟩ (xnew_ok hq)
  rwa [upd_id he] at this

/-- B.__init__(self, text) through an own class B -/
theorem pe_binit {x : Str} {SW : Addr} {a : Expr} {es : List Expr} {t : TA} {p ap pos : Pos} {pl : Sem Bool} (hg : Gl X x) (hm : X.mg x = some (.ref SW)) (hga : PySem.W.specialIn X.K (.ref SW) "__getattribute__" = some (some (.builtin "type.__getattribute__")))
    (hr : PySem.W.readsIn X.K SW (.type "type") = true) (hf : PySem.W.findCls X.K (.ref SW) (.type "type") "__init__" = some (.val (.builtin "ValueError.__init__"))) (ha : PA X (a :: es) t)
    (hdb : (x == ("__debug__" : Str)) = false := by decide) (he : starEach (a :: es) X.env = (false, eval a X.env) :: starEach es X.env := by rfl) (hpl : (backTo pos (starEach es X.env)).any (·.1) = false := by rfl)
    (ht : eval (.Call (.Attribute (.Name x p) "__init__" ap) (a :: es) [] pos) X.env = (do
      let ov ← eval (.Name x p) X.env
      standAt ap.atName
      let (f, first) ← holding [ov] (getMethod ov "__init__" pl)
      callWith pos f first (backTo pos (starEach (a :: es) X.env)) (backToKw pos (keywordEach [] X.env))) := by rfl) :
    PE X (.Call (.Attribute (.Name x p) "__init__" ap) (a :: es) [] pos) (fun σ H Q => t σ H fun vs H1 => ∃ e C dct y, vs = [.ref e, y] ∧ H1 e = some (XNew e C dct) ∧ XCls X.K C ∧ Q .non H1) := by
  intro pins s σ H Q I h
  refine PySem.W.methodCall_KW (pl := pl) (ld_glob I hg hm ?_ hdb) ht
  refine PySem.W.method_cls I.kIn hga (PySem.W.cls_value I.kIn hr hf (by decide +kernel) ?_)
  refine callWith_builtin1 (thn (ha pos pins _ σ H _ (I.tok (s.toks + 1)) h) fun us s1 ⟨vs, H1, I1, r1, e, C, dct, y, ev, q1, c, q2⟩ => ?_) he hpl
  subst ev
  obtain ⟨u1, u2, rfl, r2, r3⟩ := vals2 r1
  obtain rfl : u1 = Value.ref e := r2
  obtain ⟨nm, q, N, bs, bm, sn, sub, ab, col, dd, k0, k1, k2, k3, k5, lk, T⟩ := c.obj
  have hC := I1.kIn _ _ lk
  obtain ⟨t0, hq⟩ := xnew_get I1.hok q1
  obtain ⟨hh, g, d, tk, os⟩ := s1
  refine base_init PySem.F.excBase_ValueError T.hV hC hq (by show 1 ≤ sizeLine; decide) fun h' t1 kp he' => ⟨.non, H1, I1.xsame q1 kp he', rfl, q2⟩

/-- self.f = value -/
theorem ps_xset {o value : Expr} {f : Str} {pos pos' : Pos} {ta tv : TE} (ha : PE X o ta) (hv : PE X value tv) (hs : swapsWith value (some (.Attribute o f pos')) pos.line X.env = pure false) :
    PS X (.Assign [.Attribute o f pos'] value pos) (fun D σ H => tv σ H fun y H1 => ta σ H1 fun x H2 => ∃ e C, x = .ref e ∧ XCls X.K C ∧ NoAttr X.K C f ∧
      ((H2 e = some (XNew e C none) ∧ ∀ dx, H2 dx = none → dx ≠ e → D.nx σ (upd (upd H2 dx (.xd [(f, y)])) e (XNew e C (some dx)))) ∨
       (∃ dx fs, H2 e = some (XNew e C (some dx)) ∧ H2 dx = some (.xd fs) ∧ fs.length < 1000 ∧ D.nx σ (upd H2 dx (.xd (putF f y fs)))))) := by
  intro pins s σ H D I h
  refine plainObj_wpAny_Assign_Attribute (thn (hv pins s σ H _ I h) fun u s1 ⟨y, H1, I1, ry, q⟩ => thn (ha pins s1 σ H1 _ I1 q) fun ov s2 ⟨x, H2, I2, rx, e, C, ex, c, n, q2⟩ => ?_) hs
  subst ex
  obtain rfl : ov = Value.ref e := rx
  obtain ⟨nm, q, N, bs, bm, sn, sub, ab, col, dd, k0, k1, k2, k3, k5, lk, T⟩ := c.obj
  have hC := I2.kIn _ _ lk
  have lsa := PySem.W.looks_findIn (M := model X.prog X.w) I2.kIn c.sa
  have lna := PySem.W.looks_findIn (M := model X.prog X.w) I2.kIn n
  rcases q2 with ⟨h1, q2⟩ | ⟨dx, fs, h1, h2, hl, q2⟩
  · obtain ⟨t0, hq⟩ := xnew_get I2.hok h1
    obtain ⟨hh, g, d, tk, os⟩ := s2
    refine set_at PySem.F.store_ValueError T.hO hC lsa hq rfl fun tk1 t' => ?_
    refine osa_new T.pass hC lna hq rfl (fun c z => by cases z) rfl fun h' t2 dx nd ne sz hx ns kp => ⟨_, rfl, σ, _, ?_, q2 dx (I2.hok.fresh sz) ne⟩
    have hd0 : H2 dx = none := I2.hok.fresh sz
    have une : ∀ b u, hh.get? b = some u → b ≠ dx := fun b u z w => by rw [w, nd] at z; cases z
    have tne : ∀ b u, H2 b = some u → u ≠ XNew e C none → b ≠ e := fun b u z w y => by rw [y, h1] at z; exact w (Option.some.inj z).symm
    have get2 : ∀ b, b ≠ e → b ≠ dx → upd (upd H2 dx (.xd [(f, y)])) e (XNew e C (some dx)) b = H2 b := fun b w z => by rw [upd_ne w, upd_ne z]
    have keep2 : ∀ b u, H2 b = some u → u ≠ XNew e C none → upd (upd H2 dx (.xd [(f, y)])) e (XNew e C (some dx)) b = some u := fun b u z w => by
      rw [get2 b (tne b u z w) (ne_of_none z hd0)]; exact z
    refine I2.un (t' := t2) (h' := h') ⟨fun b u z m _ _ => kp b u (fun w => by rw [w, h1] at m; cases m) z, fun b u z m _ _ => ⟨u.slots, kp b u (fun w => by rw [w, h1] at m; cases m) z⟩,
      fun b u z m _ => by rw [get2 b (fun w => by rw [w, h1] at m; cases m) (une b u z)]; exact m, fun b u z _ => ?_, fun b xs z => keep2 b _ z (by intro w; cases w), fun b u v z => keep2 b _ z (by intro w; cases w), fun b ps z => ⟨#[], by rw [keep2 b _ z (by intro w; cases w)]; simp⟩⟩ fun b u z => ?_
    · by_cases w : b = e
      · rw [w]; exact ⟨_, hx⟩
      · exact ⟨u, kp b u w z⟩
    · by_cases w : b = e
      · subst w
        rw [upd_same] at z; cases z
        exact xnew_ok hx
      · rw [upd_ne w] at z
        by_cases w2 : b = dx
        · subst w2
          rw [upd_same] at z; cases z
          refine ⟨_, ns, fun y' => ?_⟩
          show RelO (List.lookup y' [(f, y)]) (if y' = f then some u else none)
          by_cases w3 : y' = f
          · rw [if_pos w3, w3]; simp [List.lookup]; exact ry
          · rw [if_neg w3]
            have : List.lookup y' [(f, y)] = none := by
              show (match y' == f with | true => some y | false => none) = none
              rw [beq_eq_false_iff_ne.mpr w3]
            rw [this]; trivial
        · rw [upd_ne w2] at z
          refine (I2.hok b u z).stay (fun c v hc z2 => kp c v ?_ z2) (fun c z2 => keep2 c _ z2 (by intro w; cases w)) fun c xs z2 => keep2 c _ z2 (by intro w; cases w)
          rcases hc with rfl | hc
          · exact w
          · exact tne c _ hc (by intro w; cases w)
  · obtain ⟨t0, hq⟩ := xnew_get I2.hok h1
    obtain ⟨mA, ns, rel⟩ := (show ObjOk X.prog X.w H2 s2.heap dx (.xd fs) from I2.hok dx _ h2)
    obtain ⟨hh, g, d, tk, os⟩ := s2
    have wi : Within mA (fs.map (·.1)) := fun y' hy => by
      cases w : fs.lookup y' with
      | none =>
        have := rel y'
        rw [w] at this
        cases w2 : mA y' with
        | none => exact absurd w2 hy
        | some v => rw [w2] at this; exact this.elim
      | some v => exact List.mem_map.mpr ⟨(y', v), PySem.mem_of_lookup w, rfl⟩
    refine set_at PySem.F.store_ValueError T.hO hC lsa hq rfl fun tk1 t' => ?_
    refine osa_more T.pass hC lna hq rfl rfl ns wi (by rw [List.length_map, sizeLine_eq]; omega) fun h' t2 ns' kp => ⟨_, rfl, σ, _, ?_, q2⟩
    have hd : ∃ o, h'.get? dx = some o := let ⟨o, _, _, z, _⟩ := ns'; ⟨o, z⟩
    have tne : ∀ b u, H2 b = some u → u ≠ HO.xd fs → b ≠ dx := fun b u z w y => by rw [y, h2] at z; exact w (Option.some.inj z).symm
    have keep2 : ∀ b u, H2 b = some u → u ≠ HO.xd fs → upd H2 dx (.xd (putF f y fs)) b = some u := fun b u z w => by rw [upd_ne (tne b u z w)]; exact z
    have nd : ∀ b, H2 b = none → b ≠ dx := fun b m w => by rw [w, h2] at m; cases m
    refine I2.un (t' := t2) (h' := h') ⟨fun b u z m _ _ => kp b u (nd b m) z, fun b u z m _ _ => ⟨u.slots, kp b u (nd b m) z⟩, fun b u z m _ => by rw [upd_ne (nd b m)]; exact m, fun b u z _ => ?_,
      fun b xs z => keep2 b _ z (by intro w; cases w), fun b u v z => keep2 b _ z (by intro w; cases w), fun b ps z => ⟨#[], by rw [keep2 b _ z (by intro w; cases w)]; simp⟩⟩ fun b v z => ?_
    · by_cases w : b = dx
      · rw [w]; exact hd
      · exact ⟨u, kp b u w z⟩
    · by_cases w : b = dx
      · subst w
        rw [upd_same] at z; cases z
        refine ⟨_, ns', fun y' => ?_⟩
        show RelO ((putF f y fs).lookup y') (if y' = f then some u else mA y')
        rw [lookup_putF]
        by_cases w : y' = f
        · rw [if_pos w, if_pos w]; exact ry
        · rw [if_neg w, if_neg w]; exact rel y'
      · rw [upd_ne w] at z
        refine (I2.hok b v z).stay (fun c v' hc z2 => kp c v' ?_ z2) (fun c z2 => keep2 c _ z2 (by intro w; cases w)) fun c xs z2 => keep2 c _ z2 (by intro w; cases w)
        rcases hc with rfl | hc
        · exact w
        · exact tne c _ hc (by intro w; cases w)

/-- e.f -/
theorem pe_xget {o : Expr} {f : Str} {pos : Pos} {ta : TE} (ho : PE X o ta) (hb : attributeBase o f X.env (eval o X.env) = eval o X.env) :
    PE X (.Attribute o f pos) (fun σ H Q => ta σ H fun x H1 => ∃ e C fs v, x = .ref e ∧ XCls X.K C ∧ NoAttr X.K C f ∧ XAs H1 e C fs ∧ fs.lookup f = some v ∧ Q v H1) := by
  intro pins s σ H Q I h
  refine attr_of hb (thn (ho pins s σ H _ I h) fun u s1 ⟨x, H1, I1, rx, e, C, fs, v, ex, c, n, ⟨dx, xa, hd⟩, lf, q⟩ => ?_)
  subst ex
  obtain rfl : u = Value.ref e := rx
  obtain ⟨nm, qn, N, bs, bm, sn, sub, ab, col, dd, k0, k1, k2, k3, k5, lk, T⟩ := c.obj
  have hC := I1.kIn _ _ lk
  have lga := PySem.W.looks_findIn (M := model X.prog X.w) I1.kIn c.ga
  have lgt := PySem.W.looks_findIn (M := model X.prog X.w) I1.kIn c.gt
  have lna := PySem.W.looks_findIn (M := model X.prog X.w) I1.kIn n
  have ob : ∃ oe vs, s1.heap.get? e = some oe ∧ oe.cls = .ref C ∧ oe.dict = some dx ∧ oe.data = .fields vs := by
    rcases xa with xa | xa
    · obtain ⟨t0, z⟩ := xnew_get I1.hok xa
      exact ⟨_, _, z, rfl, rfl, rfl⟩
    · exact xold_get I1.hok xa
  obtain ⟨oe, vs, z1, z2, z3, z4⟩ := ob
  obtain ⟨mA, ns, rel⟩ := (show ObjOk X.prog X.w H1 s1.heap dx (.xd fs) from I1.hok dx _ hd)
  obtain ⟨u', hu, ru⟩ := RelO.some_of (v := v) (o := mA f) (by rw [← lf]; exact rel f)
  have tk := I1.tok (s1.toks + 1)
  obtain ⟨hh, g, d, t, os⟩ := s1
  refine get_x PySem.F.attrBase_ValueError T.hB hC lna lga lgt z1 z2 z4 z3 ns.ns hu (PySem.W.handedOut_of (handed_of ru)) ⟨v, H1, tk, ru, q⟩
end
end L2


set_option Elab.async false
set_option maxRecDepth 100000
set_option maxHeartbeats 4000000
/-! Exceptions over the layer: the class is called, a text is put together, raised. -/
namespace L2
open PySem PySem.Spec PyProof.Rows Fly

section
variable {X : Cx} {x : Str} {C fI : Addr} {k : Nat} {fd : FuncData} {ps : List Str} {sp : Sp} {a : Expr} {es : List Expr} {t : TA} {p pos : Pos}

/-- C(..), with an __init__ of its own -/
theorem pe_makeX (c : XCls X.K C) (hi : PySem.W.findIn X.K (.ref C) "__init__" = some (some (.ref fI))) (lf : ∃ oI, X.K.lookup fI = some oI ∧ oI.cls = .type "function") (F : FnOk X.prog X.w X.K X.mg X.base CX0 k fI fd ps sp) (hr : Room (k + 1) X.A)
    (hg : Gl X x) (hm : X.mg x = some (.ref C)) (hb : Binds X.K fd ps []) (ha : PA X (a :: es) t) (hdb : (x == ("__debug__" : Str)) = false := by decide)
    (he : starEach (a :: es) X.env = (false, eval a X.env) :: starEach es X.env := by rfl) (hpl : (backTo pos (starEach es X.env)).any (·.1) = false := by rfl) :
    PE X (.Call (.Name x p) (a :: es) [] pos) (fun σ H Q => t σ H fun vs H1 => vs.length ≤ 100 ∧ ∀ e, H1 e = none → sp (.ref e :: vs) (upd H1 e (XNew e C none)) (fun v H2 => v = .non ∧ Q (.ref e) H2) E0) := by
  intro pins s σ H Q I h
  refine wpAny_Call_Name_kw (ld_glob I hg hm ?_ hdb)
  refine PySem.W.callWith_K (h₀ := X.base) I.ok.mod.kin c.kp (thn (ha pos pins s σ H _ I h) fun us s1 ⟨vs, H1, I1, r, hl, q⟩ => ⟨I1.kIn, ?_⟩) he hpl
  show wpAny _ _ (call (.ref C) us) _ _ _
  obtain ⟨nm, qn, N, bs, bm, sn, sub, ab, col, dd, k0, k1, k2, k3, k5, lk, T⟩ := c.obj
  obtain ⟨oI, lI, cI⟩ := lf
  have hC := I1.kIn _ _ lk
  have hI := I1.kIn _ _ lI
  have li := PySem.W.looks_findIn (M := model X.prog X.w) I1.kIn hi
  have hz : us.length ≤ sizeLine := by rw [← r.length, sizeLine_eq]; omega
  obtain ⟨hh, g, d, tk, os⟩ := s1
  refine call_init PySem.F.excBase_ValueError T.hV T.hA T.hN hC li hI cI (fun h' e sz me => ?_) hz
  obtain ⟨t0, ht0, _⟩ := me.there
  have fr : H1 e = none := I1.hok.fresh sz
  have I2 : Inv X pins σ (upd H1 e (XNew e C none)) ⟨h', g, d, tk, os⟩ := I1.laid (t' := tk) (h' := h') me.keeps sz (xnew_ok ht0)
  have hq := q e fr
  have r2 : Vals (V.ref e :: vs) (Value.ref e :: us) := .cons rfl r
  have hl2 : (Value.ref e :: us ++ []).length = ps.length := by
    have z := r2.length
    rw [F.len _ _ _ _ hq] at z
    rw [List.append_nil]; exact z.symm
  have bd := hb _ (Value.ref e :: us) I2.kIn hl2
  rw [List.append_nil] at bd
  refine wpAny_call (codeAny_mono (F.run _ X.stack _ _ ⟨Value.ref e :: us, []⟩ (Value.ref e :: us) _ _ E0 (hr.make C us []) (I2.env0.make C us []) bd r2 hq) fun r s' hq' => ?_)
  cases r with
  | error e => exact False.elim hq'
  | ok fl =>
    cases fl with
    | ret u =>
      obtain ⟨v, H', I3, rv, ev, q3⟩ := I2.after hq'
      subst ev
      exact ⟨rv, ⟨V.ref e, H', I3, rfl, q3⟩⟩
    | next => exact False.elim hq'
    | brk => exact False.elim hq'
    | cont => exact False.elim hq'

/-- C(..), with the built-in __init__ -/
theorem pe_makeB (c : XCls X.K C) (hi : PySem.W.findIn X.K (.ref C) "__init__" = some (some (.builtin "ValueError.__init__"))) (hg : Gl X x) (hm : X.mg x = some (.ref C)) (ha : PA X (a :: es) t) (hdb : (x == ("__debug__" : Str)) = false := by decide)
    (he : starEach (a :: es) X.env = (false, eval a X.env) :: starEach es X.env := by rfl) (hpl : (backTo pos (starEach es X.env)).any (·.1) = false := by rfl) :
    PE X (.Call (.Name x p) (a :: es) [] pos) (fun σ H Q => t σ H fun vs H1 => vs.length ≤ 100 ∧ ∀ e, H1 e = none → Q (.ref e) (upd H1 e (XNew e C none))) := by
  intro pins s σ H Q I h
  refine wpAny_Call_Name_kw (ld_glob I hg hm ?_ hdb)
  refine PySem.W.callWith_K (h₀ := X.base) I.ok.mod.kin c.kp (thn (ha pos pins s σ H _ I h) fun us s1 ⟨vs, H1, I1, r, hl, q⟩ => ⟨I1.kIn, ?_⟩) he hpl
  show wpAny _ _ (call (.ref C) us) _ _ _
  obtain ⟨nm, qn, N, bs, bm, sn, sub, ab, col, dd, k0, k1, k2, k3, k5, lk, T⟩ := c.obj
  have hC := I1.kIn _ _ lk
  have li := PySem.W.looks_findIn (M := model X.prog X.w) I1.kIn hi
  have hz : us.length ≤ sizeLine := by rw [← r.length, sizeLine_eq]; omega
  obtain ⟨hh, g, d, tk, os⟩ := s1
  refine call_bi PySem.F.excBase_ValueError T.hV T.hA T.hN hC li (fun h' e t1 sz kp he' => ⟨.ref e, _, ?_, rfl, q e (I1.hok.fresh sz)⟩) hz
  exact I1.laid (t' := tk) (h' := h') kp sz (xnew_ok he')

/-! ### a text put together: what it is, isn't asked -/
theorem joins_mono {M : Model} {A : Around} {E : Value → Shared → Prop} {Q Q' : Str → Shared → Prop} (hQ : ∀ o s, Q o s → Q' o s) : ∀ (parts : List (Sem Value)) (acc : Str) (s : Shared), Joins M A E parts acc Q s → Joins M A E parts acc Q' s
  | [], _, _, h => hQ _ _ h
  | _ :: rest, _, _, h => wpAny_mono h (fun _ s1 ⟨y, t, e, l, r⟩ => ⟨y, t, e, l, joins_mono hQ rest _ s1 r⟩) fun _ _ z => z
def ReprOk : V → Prop
  | .int i => i.natAbs.log2 < 1000
  | .str x => (reprText x).length ≤ 2000
  | _ => False
def PJ (X : Cx) (es : List Expr) (t : St → Hp → (Hp → Prop) → Prop) : Prop :=
  ∀ (pins : List (Addr × Obj)) (s : Shared) (σ : St) (H : Hp) (acc : Str) (R : Hp → Prop), Inv X pins σ H s → acc.length + 3000 * es.length ≤ 1000000 → t σ H R →
    Joins (model X.prog X.w) X.A X.xe (evalEach es X.env) acc (fun out s1 => out.length ≤ sizeLine ∧ ∃ H', Inv X pins σ H' s1 ∧ R H') s
theorem pj_nil : PJ X [] (fun _ H R => R H) := fun _ s _ H acc R I hl h => ⟨by rw [sizeLine_eq]; simp at hl; omega, H, I, h⟩
theorem pj_str {z : Str} {j : Nat} {q : Pos} {t : St → Hp → (Hp → Prop) → Prop} (hz : z.length ≤ 2000) (hr : PJ X es t) (hs : evalEach (.Constant (.str z) j q :: es) X.env = eval (.Constant (.str z) j q) X.env :: evalEach es X.env := by rfl) : PJ X (.Constant (.str z) j q :: es) t := by
  intro pins s σ H acc R I hl h
  rw [hs]
  have hl' : acc.length + 3000 * (es.length + 1) ≤ 1000000 := hl
  have e1 : (acc ++ z).length = acc.length + z.length := strLen_append acc z
  refine Calls.Constant_str ⟨z, _, rfl, by rw [e1, sizeLine_eq]; omega, hr pins _ σ H (acc ++ z) R (I.tok _) (by rw [e1]; omega) h⟩
theorem pj_repr {v : Expr} {tv : TE} {q : Pos} {t : St → Hp → (Hp → Prop) → Prop} (hv : PE X v tv) (hr : PJ X es t) (hs : evalEach (.FormattedValue v 114 none q :: es) X.env = eval (.FormattedValue v 114 none q) X.env :: evalEach es X.env := by rfl) :
    PJ X (.FormattedValue v 114 none q :: es) (fun σ H R => tv σ H fun y H1 => ReprOk y ∧ t σ H1 R) := by
  intro pins s σ H acc R I hl h
  rw [hs]
  have hl' : acc.length + 3000 * (es.length + 1) ≤ 1000000 := hl
  have fin : ∀ (z : Str) (H1 : Hp) (s1 : Shared) (tk : Tok), Inv X pins σ H1 s1 → z.length ≤ 2000 → t σ H1 R →
      wpAny (model X.prog X.w) X.A (formatField (.str z tk) Str.empty) (fun w s2 => ∃ y t', w = .str y t' ∧ (acc ++ y).length ≤ sizeLine ∧ Joins (model X.prog X.w) X.A X.xe (evalEach es X.env) (acc ++ y) (fun out s1 => out.length ≤ sizeLine ∧ ∃ H', Inv X pins σ H' s1 ∧ R H') s2) X.xe s1 := by
    intro z H1 s1 tk I1 hz h1
    have e1 : (acc ++ z).length = acc.length + z.length := strLen_append acc z
    have hzz : (acc ++ z).length ≤ sizeLine := by rw [e1, sizeLine_eq]; omega
    refine wpAny_formatField_str ⟨z, _, rfl, hzz, hr pins _ σ H1 (acc ++ z) R I1 (by rw [e1]; omega) h1⟩ ⟨z, _, rfl, hzz, hr pins _ σ H1 (acc ++ z) R (I1.tok _) (by rw [e1]; omega) h1⟩ (by rw [sizeLine_eq]; omega)
  refine wpAny_FormattedValue_repr (thn (hv pins s σ H _ I h) fun u s1 ⟨y, H1, I1, ry, rk, h1⟩ => ?_)
  cases y with
  | int i =>
    obtain ⟨tk, rfl⟩ := (show ∃ t, u = Value.int i t from ry)
    have rk : i.natAbs.log2 < 1000 := rk
    have len : (Str.ofString (toString i)).length ≤ 2000 := by
      rw [PySem.ofString_length]
      have := int_text_length_le (k := 1000) (by decide) rk
      omega
    refine wpAny_pyReprObj_gives (T := "int") (typeIs_int _ i tk) PySem.F.slot_int_repr PySem.F.entry_int_repr (by unfold argsOk; kernel_rfl) (gives_int_repr i tk (by omega)) ?_ rfl (by rw [sizeLine_eq]; omega)
    exact fin _ H1 _ _ (I1.tok _) len h1
  | str z =>
    obtain ⟨tk, rfl⟩ := (show ∃ t, u = Value.str z t from ry)
    have rk : (reprText z).length ≤ 2000 := rk
    exact wpAny_pyReprObj_str (fin _ H1 _ _ (I1.tok _) rk h1) (by rw [sizeLine_eq]; omega)
  | _ => exact False.elim rk
theorem pe_join {v1 v2 : Expr} {rest : List Expr} {t : St → Hp → (Hp → Prop) → Prop} (h : PJ X (v1 :: v2 :: rest) t) (hl : rest.length ≤ 100) : PE X (.JoinedStr (v1 :: v2 :: rest) pos) (fun σ H Q => t σ H fun H1 => ∀ z : Str, Q (.str z) H1) := by
  intro pins s σ H Q I q
  refine wpAny_JoinedStr ?_
  have e0 : Str.empty.length = 0 := rfl
  have := h pins s σ H Str.empty _ I (by rw [e0]; show 0 + 3000 * (rest.length + 1 + 1) ≤ _; omega) q
  exact joins_mono (fun out s1 ⟨z, H', I', q'⟩ => ⟨z, .str out, H', I'.tok _, ⟨_, rfl⟩, q' out⟩) _ _ _ this
end

section
variable {P : Program} {w : World} {K : PySem.W.Frag} {mg : Str → Option Value} {base : Heap} {N : List Str} {qual : Str} {scope : Scope} {f : Addr} {cd : Value} {A : Around} {outer : List Env} {s0 : Shared} {H0 : Hp} {E : XK} {C : Addr} {ex : Expr} {te : TE} {pos : Pos}
theorem ps_raise (c : XCls K C) (he : PE (cxOf (CXx P w) P w K mg base N qual scope f cd A outer s0 H0 E) ex te) :
    PS (cxOf (CXx P w) P w K mg base N qual scope f cd A outer s0 H0 E) (.Raise (some ex) none pos) (fun _ σ H => te σ H fun x H1 => ∃ e dx, x = .ref e ∧ H1 e = some (XNew e C dx) ∧ H0 e = none ∧ E (.ref C) dx (del H1 e)) := by
  intro pins s σ H D I h
  obtain ⟨nm, qn, Nn, bs, bm, sn, sub, ab, col, dd, k0, k1, k2, k3, k5, lk, T⟩ := c.obj
  refine exec_raise (C := C) (nm := nm) (q := qn) (N := Nn) (bs := bs) (bm := bm) (hdct := true) (sn := sn) (sub := sub) (ab := ab) (col := col) (dd := dd) (k0 := k0) (k1 := k1) (k2 := k2) (k3 := k3) (k5 := k5) (newId := "ValueError.__new__") T.hB (I.ok.hd rfl) (thn (he pins s σ H _ I h) fun u s1 ⟨x, H1, I1, rx, e, dx, ex, h1, h0, hE⟩ => ?_)
  subst ex
  obtain rfl : u = Value.ref e := rx
  obtain ⟨t0, q⟩ := xnew_get I1.hok h1
  exact ⟨e, t0, _, rfl, I1.kIn _ _ lk, q, raiseX I1 h1 h0 hE⟩
end
end L2


set_option Elab.async false
set_option maxRecDepth 100000
set_option maxHeartbeats 4000000
/-! Exceptions over the layer: caught, asked for their class. -/
namespace L2
open PySem PySem.Spec PyProof.Rows Fly

section
variable {X : Cx} {pins : List (Addr × Obj)} {σ : St} {H H' : Hp} {s s' : Shared} {e C : Addr} {dx : Option Addr} {B h2 : Heap}

/-- the catcher's frame, behind a callee's exception -/
theorem Inv.caught (I : Inv X pins σ H s) (os : s'.os = s.os) (bare : AllBare s'.gens) (xa : XAt B X.stack e (.ref C) dx (some .none) s'.heap) (x2 : XAt B X.stack e (.ref C) dx (some .none) h2) (up : s'.heap.UpToSlots h2)
    (hok : HOk X.prog X.w H' B) (he : H' e = none) (hn : s.heap.get? e = none) (un : Un (frs X.stack) [] H H' s.heap s'.heap)
    (old : ∀ b o, s.heap.get? b = some o → b ∉ frs X.stack → ∃ o', B.get? b = some o' ∧ (H b = none → o' = o)) {t' : Nat} : Inv X pins σ (upd H' e (XOld e C dx)) { s' with heap := h2, toks := t' } := by
  have ne : ∀ b o, s.heap.get? b = some o → b ≠ e := fun b o z w => by rw [w, hn] at z; cases z
  have tne : ∀ b o, H' b = some o → b ≠ e := fun b o z => ne_of_none z he
  have fr : ∀ b o, b ∈ frs X.stack → s'.heap.get? b = some o → ∃ sl, h2.get? b = some { o with slots := sl } := fun b o hb q => by
    obtain ⟨_, o', q', nf⟩ := xa.frames.mem hb
    rw [q] at q'; cases q'
    exact up b o q nf
  obtain ⟨oe, vs, z1, z2, z3, z4, _⟩ := x2.obj
  refine I.call' (s' := { s' with heap := h2, toks := t' }) (ch := []) os ⟨fun b o q n hb _ => ?_, fun b o q n hb _ => ?_, fun b o q n _ => ?_, fun b o q _ => ?_, fun b xs q => ?_, fun b o u q => ?_, fun b ps q => ?_⟩ (fun b o z => ?_) bare fun b hb => absurd hb no0
  · obtain ⟨o', q', k'⟩ := old b o q hb
    rw [k' n] at q'
    exact x2.stays b o q'
  · obtain ⟨sl, q1⟩ := un.slot b o q n hb no0
    obtain ⟨sl2, q2⟩ := fr b _ hb q1
    exact ⟨sl2, q2⟩
  · rw [upd_ne (ne b o q)]; exact un.free b o q n no0
  · by_cases hb : b ∈ frs X.stack
    · obtain ⟨o1, q1⟩ := un.there b o q no0
      obtain ⟨sl, q2⟩ := fr b o1 hb q1
      exact ⟨_, q2⟩
    · obtain ⟨o', q', _⟩ := old b o q hb
      exact ⟨o', x2.stays b o' q'⟩
  · have z := un.tups b xs q
    rw [upd_ne (tne b _ z)]; exact z
  · have z := un.frzs b o u q
    rw [upd_ne (tne b _ z)]; exact z
  · obtain ⟨m, z⟩ := un.tbls b ps q
    exact ⟨m, by rw [upd_ne (tne b _ z)]; exact z⟩
  · by_cases hb : b = e
    · subst hb
      rw [upd_same] at z; cases z
      exact xold_ok z1 z2 z3 z4
    · rw [upd_ne hb] at z
      exact (hok b o z).stay (fun c u _ y => x2.stays c u y) (fun c y => by rw [upd_ne (tne c _ y)]; exact y) fun c xs y => by rw [upd_ne (tne c _ y)]; exact y

/-- a local name is gone -/
theorem Inv.unset {i : Nat} {n : Str} {m : Str → Option Value} {u : Option Value} {h' : Heap} {t' : Nat} (I : Inv X pins σ H s) (hN : X.N.Nodup) (hi : X.N[i]? = some n) (hn : s.heap.Ns X.env.locals m)
    (hl : ∀ (j : Nat) (y : Str) (v : V), X.N[j]? = some y → σ[j]? = some (some v) → Vis X.env.scope y → ∃ u, RelV v u ∧ Look X.env s.heap m y u)
    (hn' : h'.Ns X.env.locals (fun x => if x = n then u else m x)) (hs : Heap.SameBut X.env.locals s.heap h') : Inv X pins (σ.set i none) H { s with heap := h', toks := t' } := by
  have cne := I.cne
  have ab : ∀ b o, X.s₀.heap.get? b = some o → b ≠ X.env.locals := fun b o e => Nat.ne_of_lt (Nat.lt_of_lt_of_le (Heap.lt_size e) I.ok.above)
  refine ⟨I.ok, I.os, I.bare, ⟨fun b o e n hb hx => (hs.2 b (ab b o e)).trans (I.base.keep b o e n hb hx), fun b o e n hb hx => ?_, I.base.free, fun b o e hx => ?_, I.base.tups, I.base.frzs, I.base.tbls⟩, ⟨_, hn', fun j y v e1 e2 e3 => ?_⟩, fun y c e => ?_, I.free, I.freeC, fun p hp => ?_, fun b o e => ?_, by simpa using I.len⟩
  · obtain ⟨sl, e1⟩ := I.base.slot b o e n hb hx
    exact ⟨sl, (hs.2 b (ab b o e)).trans e1⟩
  · obtain ⟨o', e1⟩ := I.base.there b o e hx
    exact ⟨o', (hs.2 b (ab b o e)).trans e1⟩
  · by_cases hj : j = i
    · subst hj
      have hz : j < σ.length := by rw [I.len]; exact (List.getElem?_eq_some_iff.mp hi).1
      rw [List.getElem?_set_self hz] at e2
      cases e2
    · rw [List.getElem?_set_ne (Ne.symm hj)] at e2
      obtain ⟨u', r', q⟩ := hl j y v e1 e2 e3
      refine ⟨u', r', ?_⟩
      rcases q with ⟨k, z⟩ | ⟨k, c, z, w⟩
      · refine .inl ⟨k, ?_⟩
        have : y ≠ n := fun e => hj (nodup_ix hN e1 (e ▸ hi))
        simp [this, z]
      · exact .inr ⟨k, c, z, w.sameBut hs (cne y c z)⟩
  · obtain ⟨v, z⟩ := I.cell y c e
    exact ⟨v, z.sameBut hs (cne y c e)⟩
  · obtain ⟨e, n, ne, nf, d⟩ := I.pin p hp
    exact ⟨(hs.2 p.1 ne).trans e, n, ne, nf, d⟩
  · refine (I.hok b o e).stay (fun c v hc q => (hs.2 c ?_).trans q) (fun _ q => q) fun _ _ q => q
    rintro rfl
    rcases hc with w | hc
    · rw [← w, I.free] at e; cases e
    · rw [I.free] at hc; cases hc
end

section
variable {X : Cx} {x c n y : Str} {f SW : Addr} {fd : FuncData} {k i j : Nat} {ps : List Str} {sp : Sp} {a : Expr} {es : List Expr} {t : TA} {p pos pe pc py pn pa ph tp : Pos}

end

/-! ### isinstance of an exception -/
theorem kitx_x {K : PySem.W.Frag} {e C : Addr} (c : XCls K C) (hcl : PySem.W.findIn K (.ref C) "__class__" = some (some (.builtin "object.__class__"))) :
    PySem.W.KitX K (.ref e) (.ref C) (fun h => ∃ oe vs, h.get? e = some oe ∧ oe.cls = .ref C ∧ oe.data = .fields vs) where
  ty := fun M h X ⟨oe, vs, z1, z2, _⟩ => by
    rw [← z2]
    exact (PySem.W.Looks.ld z1).andThen .now
  it := fun M h X _ => by
    obtain ⟨nm, q, N, bs, bm, sn, sub, ab, col, dd, k0, k1, k2, k3, k5, lk, T⟩ := c.obj
    intro A' Q' E' s' k q
    unfold isType loadHead
    exact wpAny_bind (wpAny_loadPart (k _ _ (X _ _ lk)) (wpAny_pure q))
  ne := fun h tp dd its n sl X htp => by
    obtain ⟨nm, q, N, bs, bm, sn, sub, ab, col, dd', k0, k1, k2, k3, k5, lk, T⟩ := c.obj
    refine Bool.eq_false_iff.mpr fun z => ?_
    have w : C = tp := Value.ref.inj (beq_iff_eq.mp z)
    subst w
    have z := congrArg (Option.map Obj.cls) ((X _ _ lk).symm.trans htp)
    have z' : some (Value.type "type") = some (Value.type "tuple") := z
    exact absurd z' (by decide)
  ca := fun {prog w A E Q s} X ⟨oe, vs, z1, z2, _⟩ hq => by
    obtain ⟨nm, q, N, bs, bm, sn, sub, ab, col, dd, k0, k1, k2, k3, k5, lk, T⟩ := c.obj
    obtain ⟨hh, g, d, t, os⟩ := s
    exact cls_attr PySem.F.attrBase_ValueError T.hB T.hO (X _ _ lk) (PySem.W.looks_findIn X hcl) (PySem.W.looks_findIn X c.ga) (PySem.W.looks_findIn X c.gt) z1 z2 hq

/-- what stands there is an exception of the class at C -/
def IsX (H : Hp) (e C : Addr) : Prop := (∃ dct, H e = some (XNew e C dct)) ∨ ∃ dx, H e = some (XOld e C dx)
theorem IsX.get {P : Program} {w : World} {H : Hp} {h : Heap} {e C : Addr} (x : HOk P w H h) (i : IsX H e C) : ∃ oe vs, h.get? e = some oe ∧ oe.cls = .ref C ∧ oe.data = .fields vs := by
  rcases i with ⟨dct, i⟩ | ⟨dx, i⟩
  · obtain ⟨t0, z⟩ := xnew_get x i
    exact ⟨_, _, z, rfl, rfl⟩
  · obtain ⟨oe, vs, z1, z2, _, z3⟩ := xold_get x i
    exact ⟨oe, vs, z1, z2, z3⟩
theorem XAs.isX {H : Hp} {e C : Addr} {fs : List (Str × V)} (x : XAs H e C fs) : IsX H e C := by
  obtain ⟨dx, i | i, _⟩ := x
  · exact .inl ⟨_, i⟩
  · exact .inr ⟨_, i⟩

section
variable {X : Cx}
/-- the value of a class name -/
def clsV : V → Option Value
  | .ref a => some (.ref a)
  | .ty n => some (.type n)
  | _ => none
theorem clsV_rel {v : V} {u c : Value} (r : RelV v u) (e : clsV v = some c) : u = c := by
  cases v with
  | ref a => cases e; exact r
  | ty n => cases e; exact r
  | _ => cases e
/-- isinstance(e, c): one class, own or built in -/
def rIsx (K : PySem.W.Frag) : List V → Hp → VK → Prop := fun xs H Q => ∃ e C y c b, xs = [.ref e, y] ∧ IsX H e C ∧ XCls K C ∧ PySem.W.findIn K (.ref C) "__class__" = some (some (.builtin "object.__class__")) ∧ clsV y = some c ∧ PySem.W.kitOne K (.ref C) c = some b ∧ Q (.bl b) H
theorem call_isx : CallR X (.builtin "isinstance") (rIsx X.K) := by
  intro pins s σ H xs us Q I r ⟨e, C, y, c, b, ex, ix, cl, hcl, hc, hk, q⟩
  subst ex
  obtain ⟨u1, u2, rfl, r1, r2⟩ := vals2 r
  obtain rfl : u1 = Value.ref e := r1
  obtain rfl := clsV_rel r2 hc
  refine PySem.W.kia_one (kitx_x cl hcl) I.kIn (ix.get I.hok) hk ?_ fun tk => ⟨.bl b, H, I.tok tk, rfl, q⟩
  intro z; cases y <;> cases hc <;> cases z
/-- isinstance(e, (c, ..)) -/
def ClsVs : List V → List Value → Prop := Paired fun v c => clsV v = some c
def rIsxt (K : PySem.W.Frag) : List V → Hp → VK → Prop := fun xs H Q => ∃ e C tp ys cs b, xs = [.ref e, .ref tp] ∧ IsX H e C ∧ XCls K C ∧ PySem.W.findIn K (.ref C) "__class__" = some (some (.builtin "object.__class__")) ∧ H tp = some (.tup ys) ∧ ClsVs ys cs ∧ PySem.W.kitAny K (.ref C) cs = some b ∧ Q (.bl b) H
end
end L2


set_option Elab.async false
set_option maxRecDepth 100000
set_option maxHeartbeats 4000000
/-! for i, x in enumerate(t): a tuple -/
namespace L2
open PySem PySem.Spec PyProof.Rows
open Sem (wp)
open AutoSeq1 (wpAny_loadPart')

theorem meets_enumT (l : Addr) (items : Array Value) :
    Meets (Builtin.«enumerate.__new__» ⟨[.type "enumerate", .ref l], []⟩) (fun _ R s => s.heap.IsTuple l items ∧
      R (.ok (.ret (.ref (s.heap.push { cls := .type "tuple_iterator", data := .fields #[.ref l, .int 0 0] }).objs.size)))
        { s with heap := (s.heap.push { cls := .type "tuple_iterator", data := .fields #[.ref l, .int 0 0] }).push { cls := .type "enumerate", data := .fields #[.none, .bool false, .ref s.heap.objs.size, rawInt 0, .none, .none] } }) :=
  .of_wp fun prog w A R s h => by
    obtain ⟨hp, g, d, tk, os⟩ := s; obtain ⟨hL, h⟩ := h
    have hsub := sub_enumerate
    have hL' : Heap.IsTuple (Shared.heap ⟨hp, g, d, tk, os⟩) l items := hL
    wp_walk using wpAny_pyIter_tuple hL'
    refine wpAny_stack_any fun st => wpAny_pure ?_
    split
    · rename_i c _ _ _ _ _
      cases (c == Value.type "enumerate")
      · wp_walk using wpAny_pyIter_tuple hL'
        exact ⟨_, rfl, h⟩
      · wp_walk using wpAny_pyIter_tuple hL'
        exact ⟨_, rfl, h⟩
    · wp_walk using wpAny_pyIter_tuple hL'
      exact ⟨_, rfl, h⟩

section
variable {prog : Program} {w : World} {A : Around} {E : Value → Shared → Prop} {s : Shared}
theorem call_enumT {l : Addr} {items : Array Value} {Q : Value → Shared → Prop} (hL : s.heap.IsTuple l items)
    (h : ∀ h', IsEnum h' (s.heap.objs.size + 1) s.heap.objs.size 0 .none → h'.IsTupleIter s.heap.objs.size l 0 → h'.objs.size = s.heap.objs.size + 2 → (∀ b o, s.heap.get? b = some o → h'.get? b = some o) → Q (.ref (s.heap.objs.size + 1)) { s with heap := h' }) :
    wpAny (model prog w) A (call (.type "enumerate") [.ref l]) Q E s := by
  refine callType_new F.called_enumerate (by decide) (F.typeCall_enumerate_1 _) (F.newCall_enumerate_1 _) (fun obj => F.args_object_init_2 obj _) F.entry_enumerate_new (meets_enumT l items) ⟨hL, ?_⟩
  have hz : (s.heap.push { cls := .type "tuple_iterator", data := .fields #[.ref l, .int 0 0] }).objs.size = s.heap.objs.size + 1 := Heap.size_push ..
  show _ ∧ _
  rw [hz]
  have he : IsEnum ((s.heap.push { cls := .type "tuple_iterator", data := .fields #[.ref l, .int 0 0] }).push { cls := .type "enumerate", data := .fields #[.none, .bool false, .ref s.heap.objs.size, rawInt 0, .none, .none] }) (s.heap.objs.size + 1) s.heap.objs.size 0 .none := by
    have z := Heap.get?_push_size (s.heap.push { cls := .type "tuple_iterator", data := .fields #[.ref l, .int 0 0] }) (o := { cls := .type "enumerate", data := .fields #[.none, .bool false, .ref s.heap.objs.size, rawInt 0, .none, .none] }) rfl
    rw [hz] at z; exact z
  exact ⟨⟨_, he, rfl⟩, h _ he ⟨_, Heap.get?_push_of_some _ (Heap.get?_push_size _ rfl), rfl, rfl⟩ (by rw [Heap.size_push, hz]) fun b o x => Heap.get?_push_of_some _ (Heap.get?_push_of_some _ x)⟩

theorem enumT_next {e it l : Addr} {i : Nat} {items : Array Value} {x old : Value} {Q : Value → Shared → Prop} (he : IsEnum s.heap e it i old) (hit : s.heap.IsTupleIter it l i) (hl : s.heap.IsTuple l items) (hx : items[i]? = some x) (hne : e ≠ it)
    (hQ : ∀ h', IsEnumOut h' e it ((i : Int) + 1) x s.heap.objs.size → h'.IsTupleIter it l (i + 1) → h'.get? s.heap.objs.size = some { cls := .type "tuple", data := .seq #[.int i s.toks, x] } → h'.objs.size = s.heap.objs.size + 1 →
      (∀ b o, b ≠ e → b ≠ it → s.heap.get? b = some o → h'.get? b = some o) → Q (.ref s.heap.objs.size) { s with heap := h', toks := s.toks + 1 }) :
    wpAny (model prog w) A (Builtin.«enumerate.__next__» ⟨[.ref e], []⟩) (fun fin s' => ∃ v, fin = .done (.ret v) ∧ Q v s') E s := by
  obtain ⟨hp, g, d, tk, os⟩ := s
  show wpAny _ _ (field (.ref e) 2 >>= _) _ _ _
  refine wpAny_bind (wpAny_field he rfl (x := .ref it) rfl ?_)
  refine wpAny_bind (drawT hit hl hx fun h1 i1 s1 => ?_)
  replace s1 : Heap.SameBut it hp h1 := s1
  have e1 : IsEnum h1 e it i old := (s1.2 e hne).trans he
  show wpAny _ _ (field (.ref e) 3 >>= _) _ _ ⟨h1, g, d, tk, os⟩
  refine wpAny_bind (wpAny_field e1 rfl (x := rawInt i) rfl ?_)
  show wpAny _ _ (field (.ref e) 4 >>= _) _ _ ⟨h1, g, d, tk, os⟩
  refine wpAny_bind (wpAny_field e1 rfl (x := .none) rfl ?_)
  show wpAny _ _ (mkInt i >>= _) _ _ ⟨h1, g, d, tk, os⟩
  refine wpAny_bind (wpAny_mkInt ?_)
  show wpAny _ _ (setField (.ref e) 3 (rawInt ((i : Int) + 1)) >>= _) _ _ ⟨h1, g, d, tk + 1, os⟩
  refine wpAny_bind (wpAny_setField_rec e1 (by simp) fun h2 e2 s2 => ?_)
  replace s2 : Heap.SameBut e h1 h2 := s2
  replace e2 : IsEnum h2 e it ((i : Int) + 1) old := e2
  show wpAny _ _ (setField (.ref e) 4 .none >>= _) _ _ ⟨h2, g, d, tk + 1, os⟩
  refine wpAny_bind (wpAny_setField_rec e2 (by simp) fun h3 e3 s3 => ?_)
  replace s3 : Heap.SameBut e h2 h3 := s3
  replace e3 : IsEnum h3 e it ((i : Int) + 1) old := e3
  show wpAny _ _ (newTuple [.int i tk, x] >>= _) _ _ ⟨h3, g, d, tk + 1, os⟩
  refine wpAny_bind (wpAny_newTuple ?_)
  have e4 : IsEnum (h3.push { cls := .type "tuple", data := .seq #[.int i tk, x] }) e it ((i : Int) + 1) old := Heap.get?_push_of_some _ e3
  generalize hh4 : h3.push { cls := .type "tuple", data := .seq #[.int i tk, x] } = h4 at e4
  have hsz : h3.objs.size = hp.objs.size := by rw [s3.1, s2.1, s1.1]
  have hel : e < hp.objs.size := Heap.lt_size he
  have t4 : h4.get? hp.objs.size = some { cls := .type "tuple", data := .seq #[.int i tk, x] } := by rw [← hh4, ← hsz]; exact Heap.get?_push_size _ rfl
  have z4 : h4.objs.size = hp.objs.size + 1 := by rw [← hh4, Heap.size_push, hsz]
  have k4 : ∀ b o, b ≠ e → b ≠ it → hp.get? b = some o → h4.get? b = some o := fun b o hbe hbi hb => by
    rw [← hh4]; exact Heap.get?_push_of_some _ (s3.extBut b o hbe (s2.extBut b o hbe (s1.extBut b o hbi hb)))
  have i4 : h4.IsTupleIter it l (i + 1) := by
    rw [← hh4]; obtain ⟨o, ho, r⟩ := (i1.extBut s2.extBut (Ne.symm hne)).extBut s3.extBut (Ne.symm hne); exact ⟨o, Heap.get?_push_of_some _ ho, r⟩
  show wpAny _ _ (Builtin.SmallTypes.ownedTupleIsFree (.ref e) >>= _) _ _ ⟨h4, g, d, tk + 1, os⟩
  rw [hsz]
  clear hh4 e3 s3 e2 s2 e1 s1 i1 hsz h3 h2 h1
  refine wpAny_bind ?_
  unfold Builtin.SmallTypes.ownedTupleIsFree
  refine wpAny_bind (wpAny_field e4 rfl (x := .none) rfl (wpAny_pure ?_))
  simp only [if_true]
  refine wpAny_bind (wpAny_rule ?_)
  refine wpAny_bind (wpAny_field e4 rfl (x := old) rfl ?_)
  refine wpAny_bind (wpAny_setField_rec e4 (by simp) fun h5 e5 s5 => ?_)
  replace s5 : Heap.SameBut e h4 h5 := s5
  replace e5 : IsEnum h5 e it ((i : Int) + 1) x := e5
  show wpAny _ _ (Builtin.SmallTypes.ownedTupleHandOut (.ref e) (.ref hp.objs.size) >>= _) _ _ ⟨h5, g, d, tk + 1, os⟩
  refine wpAny_bind ?_
  unfold Builtin.SmallTypes.ownedTupleHandOut
  refine wpAny_bind (wpAny_setField_rec e5 (by simp) fun h6 e6 s6 => ?_)
  replace s6 : Heap.SameBut e h5 h6 := s6
  replace e6 : IsEnumOut h6 e it ((i : Int) + 1) x hp.objs.size := e6
  refine wpAny_setField_rec e6 (by simp) fun h7 e7 s7 => ?_
  replace s7 : Heap.SameBut e h6 h7 := s7
  replace e7 : IsEnumOut h7 e it ((i : Int) + 1) x hp.objs.size := e7
  refine wpAny_bind (wpAny_letGo (wpAny_pure ⟨_, rfl, hQ h7 e7 ?_ ?_ ?_ ?_⟩))
  · exact ((i4.extBut s5.extBut (Ne.symm hne)).extBut s6.extBut (Ne.symm hne)).extBut s7.extBut (Ne.symm hne)
  · exact s7.extBut _ _ (Nat.ne_of_gt hel) (s6.extBut _ _ (Nat.ne_of_gt hel) (s5.extBut _ _ (Nat.ne_of_gt hel) t4))
  · rw [s7.1, s6.1, s5.1, z4]
  · exact fun b o hbe hbi hb => s7.extBut b o hbe (s6.extBut b o hbe (s5.extBut b o hbe (k4 b o hbe hbi hb)))

theorem enumT_item {e it l : Addr} {i : Nat} {items : Array Value} {x old : Value} {Q : Option Value → Shared → Prop} (he : IsEnum s.heap e it i old) (hit : s.heap.IsTupleIter it l i) (hl : s.heap.IsTuple l items) (hx : items[i]? = some x) (hne : e ≠ it)
    (hQ : ∀ h', IsEnumOut h' e it ((i : Int) + 1) x s.heap.objs.size → h'.IsTupleIter it l (i + 1) → h'.get? s.heap.objs.size = some { cls := .type "tuple", data := .seq #[.int i s.toks, x] } → h'.objs.size = s.heap.objs.size + 1 →
      (∀ b o, b ≠ e → b ≠ it → s.heap.get? b = some o → h'.get? b = some o) → Q (some (.ref s.heap.objs.size)) { s with heap := h', toks := s.toks + 1 }) : wpAny (model prog w) A (pyNext (.ref e)) Q E s := by
  have hT : s.TypeIs (.ref e) "enumerate" := ⟨_, he, rfl⟩
  unfold pyNext
  exact wpAny_bind (wpAny_attempt (wpAny_callSpecial?_slot (name := Str.ofString "__next__") hT F.slot_enumerate_next (wpAny_call_entry F.slot_enumerate_next hT F.entry_enumerate_next
    (enumT_next he hit hl hx hne fun h' a b c d k => wpAny_pure (hQ h' a b c d k)) (F.args_enumerate_next_1 _))))
theorem enumT_end {e it l : Addr} {i : Nat} {items : Array Value} {old : Value} {Q : Option Value → Shared → Prop} (hh : A.handled = none) (he : IsEnum s.heap e it i old) (hit : s.heap.IsTupleIter it l i) (hl : s.heap.IsTuple l items) (hx : items[i]? = none)
    (hQ : ∀ h', Heap.ExtBut it s.heap h' → Q none { s with heap := h' }) : wpAny (model prog w) A (pyNext (.ref e)) Q E s := by
  have hT : s.TypeIs (.ref e) "enumerate" := ⟨_, he, rfl⟩
  unfold pyNext
  refine wpAny_bind (wpAny_attempt (wpAny_callSpecial?_slot (name := Str.ofString "__next__") hT F.slot_enumerate_next (wpAny_call_entry F.slot_enumerate_next hT F.entry_enumerate_next ?_ (F.args_enumerate_next_1 _))))
  show wpAny _ _ (field (.ref e) 2 >>= _) _ _ _
  refine wpAny_bind (wpAny_field he rfl (x := .ref it) rfl ?_)
  refine wpAny_bind (drawT_end hh hit hl hx fun h' x ex hx' => ?_)
  obtain ⟨o, ho, hc⟩ := hx'
  refine wpAny_bind (wpAny_isInstance (T := "StopIteration") (b := true) ⟨o, ho, hc⟩ isSubtype_stop ?_)
  exact wpAny_pure (hQ _ ex)
end

/-- all that it leans on, at turn k -/
structure EnumT (h : Heap) (e it l : Addr) (k : Nat) : Prop where
  en : ∃ old, IsEnum h e it k old
  one : h.IsTupleIter it l k
/-- at turn i a new pair: i and the i-th item -/
def Ite (K : PySem.W.Frag) (a : Addr) : It :=
  ⟨fun i H => ∃ xs x, SqT K H a xs ∧ xs[i]? = some x,
   fun i H v H' => ∃ p x, H p = none ∧ v = .ref p ∧ (∀ xs, SqT K H a xs → xs[i]? = some x) ∧ H' = upd H p (.tup [.int (i : Int), x]),
   fun i H => ∃ xs, SqT K H a xs ∧ xs.length ≤ i⟩

theorem turn_enum {P : Program} {w : World} {K : PySem.W.Frag} {es : List Expr} {j : Nat} {pos : Pos} {e it a : Addr} (hne : e ≠ it) (hae : a ≠ e) (hai : a ≠ it) :
    Turn P w K (.Tuple es j pos) (Ite K a) [e, it] e (fun k h => EnumT h e it a k) where
  mem := by simp
  obj := fun k h Z c hc => by
    obtain ⟨⟨old, u1⟩, ⟨o4, u4, _, v4⟩⟩ := Z
    simp only [List.mem_cons, List.not_mem_nil, or_false] at hc
    rcases hc with q | q
    · subst q; exact ⟨_, u1, fun v e => by cases (show Data.fields _ = Data.cell v from e)⟩
    · subst q; exact ⟨_, u4, fun v e => by rw [v4] at e; cases e⟩
  keep := fun k h h' Z kk => by
    obtain ⟨⟨old, u1⟩, ⟨o4, u4, r4⟩⟩ := Z
    exact ⟨⟨old, kk e (by simp) _ u1⟩, ⟨o4, kk it (by simp) _ u4, r4⟩⟩
  item := by
    intro X hP hw hK hc k pins s σ H E I hf Z hg
    subst hP hw hK
    obtain ⟨xs, x, hx, ex⟩ := hg
    obtain ⟨its, r1, p1, _⟩ := I.tuple hx
    obtain ⟨u, eu, ru⟩ := r1.get ex
    obtain ⟨⟨old, u1⟩, u2⟩ := Z
    refine enumT_item u1 u2 (show s.heap.IsTuple a its.toArray from p1) (x := u) (by simpa using eu) hne fun h1 b1 b2 b3 b4 kk => ?_
    refine ⟨_, rfl, wpAny_letOwnedTupleGo_enum b1 fun h2 c1 sb => ?_⟩
    have ks : ∀ c o, c ∉ [e, it] → s.heap.get? c = some o → h2.get? c = some o := fun c o hc q => by
      simp only [List.mem_cons, List.not_mem_nil, or_false, not_or] at hc
      exact sb.extBut _ _ hc.1 (kk c o hc.1 hc.2 q)
    have ne : s.heap.objs.size ≠ e := Nat.ne_of_gt (Heap.lt_size u1)
    have b5 := sb.extBut _ _ ne b3
    have I2 : Inv X pins σ H { s with heap := h2, toks := s.toks + 1 } := I.turnedAll (t' := s.toks + 1) hf ks
    have fT : FpOk X pins H s.heap.objs.size := I.fpOk (Nat.le_refl _) (I.hok.fresh (Nat.le_refl _))
    have I3 : Inv X pins σ (upd H s.heap.objs.size (.tup [.int (k : Int), x])) { s with heap := h2, toks := s.toks + 1 } := I2.track fT I.sz
      ⟨by show 2 ≤ sizeLine; decide, [.int k s.toks, u], .cons ⟨_, rfl⟩ (.cons ru .nil), ⟨_, b5, rfl, _, rfl⟩⟩
    refine ⟨.ref s.heap.objs.size, _, I3, rfl, ⟨_, x, fT.1, rfl, fun us hu => by rw [I.tuple_inj hu hx]; exact ex, rfl⟩, ?_, fun c hc => ?_⟩
    · obtain ⟨w3, v3, q3⟩ := b2
      exact ⟨⟨_, c1⟩, ⟨w3, sb.extBut _ _ (Ne.symm hne) v3, q3⟩⟩
    · obtain ⟨o, q⟩ : ∃ o, s.heap.get? c = some o := by
        obtain ⟨o4, u4, _⟩ := u2
        simp only [List.mem_cons, List.not_mem_nil, or_false] at hc
        rcases hc with q | q
        · subst q; exact ⟨_, u1⟩
        · subst q; exact ⟨_, u4⟩
      rw [upd_ne (Nat.ne_of_lt (Heap.lt_size q))]
      exact (hf c hc).1
  done := by
    intro X hP hw hK hc k pins s σ H E I hf Z hg
    subst hP hw hK
    obtain ⟨xs, hx, hend⟩ := hg
    obtain ⟨its, r1, p1, _⟩ := I.tuple hx
    obtain ⟨⟨old, u1⟩, u2⟩ := Z
    have l1 := r1.length
    refine enumT_end (I.ok.hd hc) u1 u2 (show s.heap.IsTuple a its.toArray from p1) (by simp; omega) fun h1 kk => ⟨rfl, I.turnedAll (t' := s.toks) hf fun c o hc q => ?_⟩
    simp only [List.mem_cons, List.not_mem_nil, or_false, not_or] at hc
    exact kk c o hc.2 q
  self := fun _ _ _ _ _ Z h => let ⟨_, u⟩ := Z.en; wpAny_pyIter_enum u h

section
variable {X : Cx}
def iEnum (K : PySem.W.Frag) (ta : TA) : TI := fun σ H R => ta σ H fun vs H1 => ∃ a xs, vs = [.ref a] ∧ SqT K H1 a xs ∧ R (Ite K a) H1
theorem pi_enum {e1 : Expr} {ta : TA} {p pos tpos : Pos} {es : List Expr} {j : Nat} (hg : Gl X "enumerate") (hm : X.mg "enumerate" = none) (ha : PA X [e1] ta) (hs : starEach [e1] X.env = [(false, eval e1 X.env)] := by rfl)
    (hs2 : starEach [] X.env = [] := by rfl) : PI X (.Tuple es j tpos) (.Call (.Name "enumerate" p) [e1] [] pos) (iEnum X.K ta) := by
  intro pins s σ H R I h
  refine Call_ (ld_blt I hg hm (by kernel_rfl : bootBuiltins (Str.ofString "enumerate") = some (.type "enumerate")) (PyProof.Rows.callWith_type1 (thn (ha pos pins s σ H _ I h) fun us s1 ⟨vs, H1, I1, r1, q1⟩ => ?_) (by rw [hs, hs2]) (by rw [hs2]; rfl)))
  obtain ⟨a, xs, e, hx, q⟩ := q1
  subst e
  obtain ⟨u, rfl, ru⟩ := vals1 r1
  cases (show u = Value.ref a from ru)
  obtain ⟨its, k1, p1, _⟩ := I1.tuple hx
  have a1 : a < s1.heap.objs.size := by obtain ⟨_, e, _⟩ := p1; exact Heap.lt_size e
  refine call_enumT (show s1.heap.IsTuple a its.toArray from p1) fun h2 Z1 Z2 sz kk => ?_
  have I2 : Inv X pins σ H1 { s1 with heap := h2 } := I1.kept (t' := s1.toks) kk
  refine wpAny_pyIter_enum Z1 ⟨_, _, _, _, H1, rfl, I2, turn_enum (e := s1.heap.objs.size + 1) (it := s1.heap.objs.size) (a := a) (Nat.succ_ne_self _) (Nat.ne_of_lt (Nat.lt_succ_of_lt a1)) (Nat.ne_of_lt a1), ⟨⟨_, Z1⟩, Z2⟩, fun c hc => ?_, q⟩
  refine I1.fpOk ?_ (I1.hok.fresh ?_)
  all_goals
    simp only [List.mem_cons, List.not_mem_nil, or_false] at hc
    rcases hc with q | q <;> subst q <;> omega
end
/-- over a tuple that stays -/
theorem for_enum {K : PySem.W.Frag} {a : Addr} {xs : List V} {g : TG} {tb : TS} {D : Ends} {σ : St} {H : Hp} (Pv : Nat → St → Hp → Prop) (h0 : Pv 0 σ H)
    (hl : ∀ i σ H, i ≤ xs.length → Pv i σ H → SqT K H a xs)
    (hs : ∀ i x p σ H, xs[i]? = some x → Pv i σ H → H p = none → g (.ref p) σ (upd H p (.tup [.int (i : Int), x])) fun σ2 H2 => tb { D with nx := Pv (i + 1), ct := Pv (i + 1), bk := D.nx } σ2 H2) (hd : ∀ σ H, Pv xs.length σ H → D.nx σ H) :
    ∃ W : Nat → Nat → St → Hp → Prop, (∃ m, W 0 m σ H) ∧ ∀ i m σ H, W i m σ H →
      ((Ite K a).stop i H ∧ D.nx σ H) ∨ ((Ite K a).go i H ∧ ∃ N : St → Hp → Prop, (∀ σ' H', N σ' H' → ∃ m', m' < m ∧ W (i + 1) m' σ' H') ∧ ∀ x H', (Ite K a).yld i H x H' → g x σ H' fun σ2 H2 => tb { D with nx := N, ct := N, bk := D.nx } σ2 H2) := by
  refine ⟨fun i m σ H => i + m = xs.length ∧ Pv i σ H, ⟨xs.length, by omega, h0⟩, ?_⟩
  rintro i m σ H ⟨e, p⟩
  have q1 := hl i σ H (by omega) p
  by_cases hi : i < xs.length
  · have ex : xs[i]? = some xs[i] := List.getElem?_eq_getElem hi
    refine .inr ⟨⟨xs, _, q1, ex⟩, Pv (i + 1), fun σ' H' p' => ⟨m - 1, by omega, by omega, p'⟩, ?_⟩
    rintro x H' ⟨pp, x', fp, rfl, eu, rfl⟩
    exact hs i x' pp σ H (eu xs q1) p fp
  · have e' : i = xs.length := by omega
    subst e'
    exact .inl ⟨⟨xs, q1, Nat.le_refl _⟩, hd σ H p⟩
end L2


set_option Elab.async false
set_option maxRecDepth 100000
set_option maxHeartbeats 4000000
/-! x = [.. for ..]: the name is bound before the block's own names go. -/
namespace L2
open PySem PySem.Spec PyProof.Rows
theorem ps_setC {X : Cx} {i0 : Nat} {y0 : Str} {py spos : Pos} {elt iter tg : Expr} {ifs : List Expr} {sc : Scope} {pos : Pos} {ns ys : List Str} {fr : List Nat} {cl : List (Str × Addr)} {wi : TI} {g : TG} {tt : TT} {te : TE} (hN : X.N.Nodup) (hi0 : X.N[i0]? = some y0) (hy0 : X.env.scope.names.lookup y0 = some .local) (S : CScope X ns ys fr sc cl) (hc : X.calm = true)
    (hi : PI X tg iter wi) (hg : ∀ C s H fp, PG (cxC X (ns ++ ys) sc cl C s H fp) tg g) (ht : ∀ C s H fp, PTs (cxC X (ns ++ ys) sc cl C s H fp) ifs tt) (he : ∀ C s H fp, PE (cxC X (ns ++ ys) sc cl C s H fp) elt te)
    (hs : ∀ x, foldedSetIterable iter X.env x = pure x := by intro _; rfl) (hsw : swapsWith (.ListComp elt [⟨tg, iter, ifs, 0⟩] sc pos) (some (.Name y0 py)) spos.line X.env = pure true := by rfl) :
    PS X (.Assign [.Name y0 py] (.ListComp elt [⟨tg, iter, ifs, 0⟩] sc pos) spos) (fun D σ H => tComp ns.length fr wi g tt te σ H fun x H1 => D.nx (σ.set i0 (some x)) H1) := by
  intro pins s σ H D I h
  rw [exec_Assign_Name_used _ _ _ _ hsw]
  refine wpAny_bind (wpAny_standAt (wpAny_bind ?_))
  show wpAny _ _ (do let _ ← comprehension (.ListComp elt [⟨tg, iter, ifs, 0⟩] sc pos) sc X.env _ (newList []) false (eval iter X.env) (some (assign (.Name y0 py) X.env))) _ _ s
  refine wpAny_bind (wpAny_mono (wpAny_comprehension_free (use := some (assign (.Name y0 py) X.env)) (Q := fun _ s' => SP X pins D .next s') rfl hs S.clos S.kind S.locs (thn (hi pins s σ H _ I h) fun v s1 h1 => thn h1 fun itv s2 h2 => ?_)) (fun _ s' hq => wpAny_pure (wpAny_pure hq)) fun _ _ e => e)
  obtain ⟨it, fp, tn, J, H2, e, I2, T, st2, f2, rest⟩ := h2
  subst e
  obtain ⟨W, ⟨m0, w0⟩, turn⟩ := rest s2.heap.objs.size (I2.hok.fresh (Nat.le_refl _))
  refine wpAny_newObj_type (wpAny_newFunctionEnv S.nocell (by intro y hy; simp at hy) (fun h3 hn3 hb3 => ?_) S.kind)
  dsimp only at hn3 hb3 ⊢
  generalize hG : s2.heap.push { cls := .type "list", dict := none, data := .seq ([] : List Value).toArray } = G at hn3 hb3 ⊢
  have zG : G.objs.size = s2.heap.objs.size + 1 := by rw [← hG, Heap.size_push]
  have ltC : s2.heap.objs.size < G.objs.size := by rw [zG]; exact Nat.lt_succ_self _
  have old : ∀ b o, s2.heap.get? b = some o → h3.get? b = some o := fun b o e =>
    hb3.extBut b o (Nat.ne_of_lt (Nat.lt_trans (Heap.lt_size e) ltC)) (Heap.get?_push_of_some _ (hG ▸ Heap.get?_push_of_some _ e))
  have hD := hb3.extBut _ _ (Nat.ne_of_lt ltC) (Heap.get?_push_of_some _ (hG ▸ Heap.get?_push_size _ rfl))
  have below : ∀ b ∈ fp, b < s2.heap.objs.size := fun b hb => by
    obtain ⟨o, eo, _⟩ := T.obj _ _ st2 b hb
    exact Heap.lt_size eo
  have I3 := cxC_start (ns := ns) (ys := ys) (fr := fr) (t' := s2.toks + ([] : List (Str × Value)).length) I2 S f2 below ltC old hD hn3
  have stat : ∀ {H' : Hp}, (∀ b ∈ fp, H' b = none) → ∀ b ∈ fp, FpOk (cxC X (ns ++ ys) sc cl G.objs.size s2 H2 fp) [] H' b := fun hn b hb =>
    ⟨hn b hb, Nat.ne_of_lt (Nat.lt_trans (below b hb) ltC), I3.ok.exfs b hb, .inl hb, fun x c e => (I3.ok.exf b hb).2 x c e, fun p hp => nomatch hp⟩
  have st3 : tn 0 h3 := T.keep _ _ _ st2 fun b _ o e => old b o e
  have fr3 : ∀ b ∈ fp, upd H2 s2.heap.objs.size (.lst []) b = none := fun b hb => by
    rw [upd_ne (Nat.ne_of_lt (below b hb))]
    exact (f2 b hb).1
  have loop : ∀ s3 : Shared, s3 = { s2 with heap := h3, toks := s2.toks + ([] : List (Str × Value)).length } →
      codeAny (model X.prog X.w) X.A (.compLoop (.ListComp elt [⟨tg, iter, ifs, 0⟩] sc pos) 0 (.ref it) (.ref s2.heap.objs.size) (compEnvC sc cl G.objs.size X.env))
        (compPost (model X.prog X.w) X.A X.xe (some (assign (.Name y0 py) X.env)) (fun _ s' => SP X pins D .next s') (.ref s2.heap.objs.size) G.objs.size) s3 := by
    rintro s3 rfl
    refine lcLoop (fun n s' => ∃ i zs H', Inv (cxC X (ns ++ ys) sc cl G.objs.size s2 H2 fp) [] (List.replicate ns.length none ++ pick σ fr) H' s' ∧ tn i s'.heap ∧ (∀ b ∈ fp, H' b = none) ∧ W i n zs H') ?_ m0 ⟨0, [], _, I3, st3, fr3, w0⟩
    rintro n s5 ⟨i, zs, H5, I5, st5, fr5, w5⟩
    obtain ⟨d5, alt⟩ := turn i n zs H5 w5
    rcases alt with ⟨stop, q⟩ | ⟨go, hz, N, hN, step⟩
    · refine thn (T.done (cxC X (ns ++ ys) sc cl G.objs.size s2 H2 fp) rfl rfl rfl hc i [] s5 _ H5 _ I5 (stat fr5) st5 stop) fun r s6 ⟨hr, I6⟩ => ?_
      subst hr
      obtain ⟨m6, hn6, _⟩ := I6.loc
      have J6 : Inv X pins σ H5 s6 := cxC_back I2 f2 (Nat.le_of_lt ltC) I6 (Heap.SameBut.refl _ _)
      have lL : X.env.locals < s2.heap.objs.size := I2.lt
      have cL : ∀ x c, X.env.cells.lookup x = some c → c < s2.heap.objs.size := fun x c e => by
        obtain ⟨_, o, ho, _⟩ := I2.cell x c e
        exact Heap.lt_size ho
      show wpAny _ X.A (assign (.Name y0 py) X.env (.ref s2.heap.objs.size)) _ _ s6
      refine wpAny_assign_Name (store_ok2 (v := .ref s2.heap.objs.size) J6 hN hi0 (.inl hy0) rfl (fun s8 I8 ⟨b8, sb8, hb8⟩ => ?_) (.inr hy0))
      have nb : G.objs.size ≠ b8 := fun e => by
        rcases hb8 with z | z
        · exact absurd (e.trans z) (Nat.ne_of_gt (Nat.lt_trans lL ltC))
        · exact absurd e (Nat.ne_of_gt (Nat.lt_trans (cL _ _ z) ltC))
      refine ⟨m6, hn6.sameBut sb8 nb, fun h9 hs9 => ⟨_, H5, ?_, q⟩⟩
      refine I8.turned (it := G.objs.size) (t' := s8.toks) (fun b o hb e => (hs9.2 b hb).trans e) I6.free (Nat.ne_of_gt (Nat.lt_trans lL ltC)) (.inr (Nat.le_trans I2.sz (Nat.le_of_lt ltC))) (fun x c e => Nat.ne_of_lt (Nat.lt_trans (cL x c e) ltC)) fun p hp => ?_
      obtain ⟨e, _⟩ := I2.pin p hp
      exact Nat.ne_of_lt (Nat.lt_trans (Heap.lt_size e) ltC)
    · refine thn (T.item (cxC X (ns ++ ys) sc cl G.objs.size s2 H2 fp) rfl rfl rfl hc i [] s5 _ H5 _ I5 (stat fr5) st5 go) fun r s6 ⟨u, hr, h6⟩ => ?_
      subst hr
      refine thn h6 fun _ s7 ⟨x, H7, I7, r7, y7, st7, fr7⟩ => ?_
      have I7' := I7.pinned (stat fr7) (T.obj _ _ st7)
      refine thn (hg _ _ _ _ _ s7 _ H7 x u _ I7' r7 (step x H7 y7)) fun _ s8 ⟨σ8, H8, I8, ⟨ts, eσ, lts⟩, q8⟩ => ?_
      have again : ∀ {H9 : Hp} {s9 : Shared} {zs' : List V} {m' : Nat}, m' < n → Inv (cxC X (ns ++ ys) sc cl G.objs.size s2 H2 fp) ([] ++ pinsAt fp s7.heap) σ8 H9 s9 → W (i + 1) m' zs' H9 →
          ∃ m, m < n ∧ ∃ i zs H', Inv (cxC X (ns ++ ys) sc cl G.objs.size s2 H2 fp) [] (List.replicate ns.length none ++ pick σ fr) H' s9 ∧ tn i s9.heap ∧ (∀ b ∈ fp, H' b = none) ∧ W i m zs H' := fun {H9 s9 zs' m'} hm I9 w9 => by
        refine ⟨m', hm, i + 1, zs', H9, I9.unpinned.weak ?_ ?_, T.keep _ _ _ st7 fun b hb o e => (I9.pin (b, o) (List.mem_append_right _ (List.mem_append_right _ (mem_pinsAt hb e)))).1, fun b hb => ?_, w9⟩
        · rw [eσ, List.length_append, List.length_append, List.length_replicate, lts]
        · intro j v e
          rw [eσ]
          by_cases hj : j < ns.length
          · rw [List.getElem?_append_left (by simpa using hj), List.getElem?_replicate, if_pos hj] at e
            cases e
          · have hj' : ns.length ≤ j := Nat.le_of_not_lt hj
            rw [List.getElem?_append_right (by simpa using hj'), List.length_replicate] at e
            rw [List.getElem?_append_right (by rw [lts]; exact hj'), lts]
            exact e
        · obtain ⟨o, e, d⟩ := T.obj _ _ st7 b hb
          exact (I9.pin (b, o) (List.mem_append_right _ (List.mem_append_right _ (mem_pinsAt hb e)))).2.1
      refine thn (ht _ _ _ _ _ s8 σ8 H8 _ I8 q8) fun ok s9 ⟨H9, I9, q9⟩ => ?_
      cases ok with
      | false =>
        rw [if_neg Bool.false_ne_true] at q9 ⊢
        obtain ⟨m', hm, w9⟩ := hN _ _ q9
        exact again hm I9 w9
      | true =>
        rw [if_pos rfl] at q9 ⊢
        refine thn (he _ _ _ _ _ s9 σ8 H9 _ I9 q9) fun yv s10 ⟨y, H10, I10, r10, d10, w10⟩ => ?_
        refine thn (mt_append _ s10 σ8 H10 (.ref s2.heap.objs.size) [y] (.ref s2.heap.objs.size) [yv] (fun _ H11 => N (zs ++ [y]) H11) I10 rfl (.cons r10 .nil) ⟨_, zs, y, rfl, rfl, d10, hz, w10⟩) fun _ s11 ⟨_, H11, I11, _, w11⟩ => ?_
        obtain ⟨m', hm, w12⟩ := hN _ _ w11
        exact again hm I11 w12
  exact codeAny_compStart_list (loop _ rfl) (T.self X.A 0 _ _ _ st3 (loop _ rfl))


end L2


set_option Elab.async false
set_option maxRecDepth 100000
set_option maxHeartbeats 4000000
/-! x == y, x != y: two lists of the same data, or of unlike lengths -/
namespace L2
open PySem PySem.Spec PyProof.Rows
section
variable {X : Cx}
def rLL (K : PySem.W.Frag) (b : Bool) : R2 := fun x y H Q => ∃ l r xs ys, x = .ref l ∧ y = .ref r ∧ SqL K H l xs ∧ SqL K H r ys ∧ ((xs.length ≠ ys.length ∧ Q (.bl (!b)) H) ∨ ∃ ds, Holds K H xs ds ∧ Holds K H ys ds ∧ depL ds ≤ 60 ∧ Q (.bl b) H)
theorem op_eqLL (hu : X.A.units + 64 < cLine) : OpR X (compareOp .Eq) (rLL X.K true) := by
  intro pins s σ H x y v u Q I rx ry h
  obtain ⟨a, b, xs, ys, rfl, rfl, ha, hb, h⟩ := h
  cases rx
  cases ry
  rcases h with ⟨hl, q⟩ | ⟨ds, h1, h2, hd, q⟩
  · obtain ⟨its, r1, p1, _⟩ := I.list ha
    obtain ⟨its2, r2, p2, _⟩ := I.list hb
    have e : (its.toArray.size != its2.toArray.size) = true := by
      rw [List.size_toArray, List.size_toArray, ← r1.length, ← r2.length]
      simpa using hl
    exact SeqAt.RcAt.lists_lengths (A := X.A) (s := s) p1.isList p2.isList e (by omega) _ _ _ _ (show EP X pins σ Q (.bool false) s from ⟨.bl false, H, I, rfl, q⟩)
  · exact rc_lsts I ha hb h1 h2 (by omega) (fun d hm x y u v kx ky qx qy => eq_same I 60 (Nat.le_trans (dep_mem hm) (by omega)) (by rw [PyProof.Rows.units_in1]; omega) kx ky qx qy) _ _ _ _ (show EP X pins σ Q (.bool true) s from ⟨.bl true, H, I, rfl, q⟩)
theorem op_neLL (hu : X.A.units + 64 < cLine) : OpR X (compareOp .NotEq) (rLL X.K false) := by
  intro pins s σ H x y v u Q I rx ry h
  obtain ⟨a, b, xs, ys, rfl, rfl, ha, hb, h⟩ := h
  cases rx
  cases ry
  obtain ⟨its, r1, p1, _⟩ := I.list ha
  obtain ⟨its2, r2, p2, _⟩ := I.list hb
  rcases h with ⟨hl, q⟩ | ⟨ds, h1, h2, hd, q⟩
  · have e : (its.toArray.size != its2.toArray.size) = true := by
      rw [List.size_toArray, List.size_toArray, ← r1.length, ← r2.length]
      simpa using hl
    exact SeqAt.RcNeAt.lists_lengths (A := X.A) (s := s) p1.isList p2.isList e (by omega) _ _ _ _ (show EP X pins σ Q (.bool true) s from ⟨.bl true, H, I, rfl, q⟩)
  · have e : its.toArray.size = its2.toArray.size := by
      rw [List.size_toArray, List.size_toArray, ← r1.length, ← r2.length, h1.length, h2.length]
    have el := same_items (s := s) (A := X.A.in1) h1 h2 r1 r2 fun d hm x y u v kx ky qx qy => eq_same I 60 (Nat.le_trans (dep_mem hm) hd) (by rw [PyProof.Rows.units_in1]; omega) kx ky qx qy
    have qn := SeqAt.RcNeAt.lists (s := s) (A := X.A) (e := fun _ => true) p1.isList p2.isList e (by omega) el
    rw [List.all_eq_true.mpr (fun _ _ => rfl)] at qn
    have qm : SeqAt.RcNeAt X.A s (.ref a) (.ref b) false := by simpa using qn
    exact qm _ _ _ _ (show EP X pins σ Q (.bool false) s from ⟨.bl false, H, I, rfl, q⟩)
end
end L2


set_option Elab.async false
set_option maxRecDepth 100000
set_option maxHeartbeats 4000000
/-! A try whose suite is of several statements: calls of defs that may refuse stand in it as statements. -/
namespace L2
open PySem PySem.Spec PyProof.Rows Fly

/-- within the suite: pins that every state bears, and what becomes of an exception, by the values that the names have then -/
def cxT (X : Cx) (pins : List (Addr × Obj)) (EX : St → XK) : Cx :=
  { X with pn := X.pn ++ pins, xe := fun ev s' => ∃ ps σ H s, Inv { X with pn := X.pn ++ pins } ps σ H s ∧ CXx X.prog X.w X.stack H s (EX σ) ev s' }
section
variable {X : Cx} {pins ps0 : List (Addr × Obj)} {σ : St} {H : Hp} {s : Shared} {EX : St → XK}
theorem Cx.Ok.pinned {xe : Value → Shared → Prop} (ok : X.Ok) : Cx.Ok { X with pn := X.pn ++ pins, xe := xe } :=
  ⟨ok.mod, ok.kind, ok.glob, ok.blt, ok.above, ok.inj, ok.has, ok.cab, ok.hd, ok.frames, ok.stk, ok.exf, ok.bs, ok.bsz, ok.noex, ok.exfs, ok.funs, ok.frf⟩
theorem Cx.Ok.back {xe : Value → Shared → Prop} (ok : Cx.Ok { X with pn := X.pn ++ pins, xe := xe }) : X.Ok :=
  ⟨ok.mod, ok.kind, ok.glob, ok.blt, ok.above, ok.inj, ok.has, ok.cab, ok.hd, ok.frames, ok.stk, ok.exf, ok.bs, ok.bsz, ok.noex, ok.exfs, ok.funs, ok.frf⟩
theorem Inv.inT (I : Inv X pins σ H s) : Inv (cxT X pins EX) [] σ H s :=
  ⟨I.ok.pinned, I.os, I.bare, I.base, I.loc, I.cell, I.free, I.freeC, fun p hp => I.pin p (by simpa [cxT] using hp), I.hok, I.len⟩
theorem Inv.outT {xe : Value → Shared → Prop} (I : Inv { X with pn := X.pn ++ pins, xe := xe } ps0 σ H s) : Inv X pins σ H s :=
  ⟨I.ok.back, I.os, I.bare, I.base, I.loc, I.cell, I.free, I.freeC, fun p hp => I.pin p (List.mem_append_left _ hp), I.hok, I.len⟩
theorem Inv.reT {xe xe' : Value → Shared → Prop} (I : Inv { X with pn := X.pn ++ pins, xe := xe } ps0 σ H s) : Inv { X with pn := X.pn ++ pins, xe := xe' } ps0 σ H s :=
  ⟨I.ok.back.pinned, I.os, I.bare, I.base, I.loc, I.cell, I.free, I.freeC, I.pin, I.hok, I.len⟩
end

section
variable {X : Cx} {x c n y : Str} {f SW : Addr} {fd : FuncData} {k i j : Nat} {ps : List Str} {sp : Sp} {a : Expr} {es : List Expr} {t : TA} {p pos pe pc py pn pa ph tp : Pos} {pins0 : List (Addr × Obj)} {EX : St → XK}
/-- a call that may refuse, within the suite -/
theorem ps_callT (F : FnOk X.prog X.w X.K X.mg X.base (CXx X.prog X.w) k f fd ps sp) (hr : Room k X.A) (hg : Gl X x) (hm : X.mg x = some (.ref f)) (hk : PySem.W.keepIn X.K (.ref f) = true) (hb : Binds X.K fd ps [])
    (ha : PA (cxT X pins0 EX) (a :: es) t) (hdb : (x == ("__debug__" : Str)) = false := by decide)
    (he : starEach (a :: es) X.env = (false, eval a X.env) :: starEach es X.env := by rfl) (hpl : (backTo pos (starEach es X.env)).any (·.1) = false := by rfl)
    (hs1 : swapsWith (.Call (.Name x p) (a :: es) [] pos) none pe.line X.env = pure false := by rfl) :
    PS (cxT X pins0 EX) (.Expr (.Call (.Name x p) (a :: es) [] pos) pe) (fun D σ H => t σ H fun vs H1 => sp vs H1 (fun _ H2 => D.nx σ H2) (EX σ)) := by
  intro pins s σ H D I h
  refine wpAny_Expr_any (Q := _) (wpAny_mono (Q := fun _ s1 => ∃ H2, Inv (cxT X pins0 EX) pins σ H2 s1 ∧ D.nx σ H2) ?_ (fun v s1 ⟨H2, I2, q⟩ => ⟨σ, H2, I2, q⟩) fun _ _ z => z) I.quiet hs1
  refine wpAny_Call_Name_kw (ld_glob (X := cxT X pins0 EX) I hg hm ?_ hdb)
  refine PySem.W.callWith_K (h₀ := X.base) I.ok.mod.kin hk (thn (ha pos pins s σ H _ I h) fun us s1 ⟨vs, H1, I1, r, q⟩ => ⟨I1.kIn, ?_⟩) he hpl
  show wpAny _ _ (call (.ref f) us) _ _ _
  have hl : (us ++ []).length = ps.length := by rw [List.append_nil, ← r.length]; exact F.len _ _ _ _ q
  have bd := hb s1 us I1.kIn hl
  rw [List.append_nil] at bd
  refine wpAny_call (codeAny_mono (F.run X.A X.stack s1 H1 ⟨us, []⟩ us vs _ _ hr I1.env0 bd r q) fun rr s' hq => ?_)
  cases rr with
  | ok fl =>
    cases fl with
    | ret u =>
      obtain ⟨v, H2, I2, rv, q2⟩ := I1.after hq
      exact ⟨H2, I2, q2⟩
    | next => exact False.elim hq
    | brk => exact False.elim hq
    | cont => exact False.elim hq
  | error ev => exact ⟨pins, σ, H1, s1, I1.reT, hq⟩

/-- try: ..  except C as n: y = n -/
theorem ps_tryT {body : List Stmt} {tb : (St → XK) → TS} (hb : ∀ pins EX, PSs (cxT X pins EX) body (tb EX)) (hgc : Gl X c) (hmc : X.mg c = some (.ref SW)) (hst : X.stack = X.env :: X.outer) (hfr : X.env.frame = some X.env.locals)
    (hN : X.N.Nodup) (hn : X.N[i]? = some n) (hln : X.env.scope.names.lookup n = some .local) (hy : X.N[j]? = some y) (hly : X.env.scope.names.lookup y = some .local)
    (hdc : (c == ("__debug__" : Str)) = false := by decide) (hdn : (n == ("__debug__" : Str)) = false := by decide) (hcn : (n == ("__classdict__" : Str)) = false := by decide)
    (hs2 : swapsWith (.Name n pn) (some (.Name y py)) pa.line X.env = pure false := by rfl) :
    PS X (.Try body [.ExceptHandler (some (.Name c pc)) (some n) [.Assign [.Name y py] (.Name n pn) pa] ph] [] [] tp)
      (fun D σ H => tb (fun σ1 cls dx H2 => ∃ C, cls = .ref C ∧ PySem.W.exmOne X.K (.ref C) (.ref SW) = some true ∧
        ∀ e, H2 e = none → D.nx (((σ1.set i (some (.ref e))).set j (some (.ref e))).set i none) (upd H2 e (XOld e C dx))) D σ H) := by
  intro pins s σ H D I h
  refine wpAny_Try_except ?_
  refine wpAny_mono (hb pins _ [] s σ H D I.inT h) (fun fl s1 q => ?_) fun ev s' hq => ?_
  · cases fl with
    | next => obtain ⟨σ', H', I', q⟩ := q; exact wpAny_execs_nil ⟨σ', H', I'.outT, q⟩
    | brk => obtain ⟨σ', H', I', q⟩ := q; exact ⟨σ', H', I'.outT, q⟩
    | cont => obtain ⟨σ', H', I', q⟩ := q; exact ⟨σ', H', I'.outT, q⟩
    | ret u => obtain ⟨v, σ', H', I', r, q⟩ := q; exact ⟨v, σ', H', I'.outT, r, q⟩
  · obtain ⟨ps1, σ1, H1, s1, I1', e, C, dx, H', B, rfl, os, bare, xa, hok, hee, hne, un, old, C2, ec, hx, q⟩ := hq
    have I1 : Inv X pins σ1 H1 s1 := I1'.outT
    cases ec
    have xa' := xa
    rw [hst] at xa'
    refine Fly.note (by rw [← hst]; exact I.ok.frames) hfr xa' (.inr rfl) fun h2 x2 up2 => ?_
    refine Fly.land x2 fun h3 x3 up3 => ?_
    rw [← hst] at x3
    refine handle_as ?_
    have ok2 : Cx.Ok { X with A := X.A.mark (some (.ref e)), calm := false, xe := fun _ _ => False } := { I.ok with hd := (fun z => Bool.noConfusion z), frames := I.ok.frames }
    have mk : ∀ {h4 : Heap} {t4 : Nat}, XAt B X.stack e (.ref C) dx (some .none) h4 → s'.heap.UpToSlots h4 → Inv { X with A := X.A.mark (some (.ref e)), calm := false, xe := fun _ _ => False } pins σ1 (upd H' e (XOld e C dx)) { s' with heap := h4, toks := t4 } := fun {h4 t4} x4 up4 => by
      have J := I1.caught (t' := t4) os bare xa x4 up4 hok hee hne un old
      exact ⟨ok2, J.os, J.bare, J.base, J.loc, J.cell, J.free, J.freeC, J.pin, J.hok, J.len⟩
    have I4 := mk (t4 := s'.toks) x3 (up2.trans up3)
    refine ld_glob (X := { X with A := X.A.mark (some (.ref e)), calm := false, xe := fun _ _ => False }) I4 hgc hmc ⟨?_, ?_⟩ hdc
    · obtain ⟨oe, vs, z1, z2, _⟩ := x3.obj
      have LT : PySem.W.Looks (model X.prog X.w) h3 (typeOf (.ref e)) (.ref C) := by
        rw [← z2]
        exact (PySem.W.Looks.ld z1).andThen .now
      exact PySem.W.exm_one I4.kIn LT hx
    · refine Fly.land x3 fun h4 x4 up4 => ?_
      have I5 := mk (t4 := s'.toks) x4 ((up2.trans up3).trans up4)
      refine store_ok (X := { X with A := X.A.mark (some (.ref e)), calm := false, xe := fun _ _ => False }) (v := .ref e) I5 hN hn (.inl hln) rfl (fun s6 I6 => ?_) (.inr hln)
      have hiσ : i < σ1.length := by
        have := I1.len
        rw [this]; exact (List.getElem?_eq_some_iff.mp hn).1
      refine wpAny_mono ((pss_one (ps_set (X := { X with A := X.A.mark (some (.ref e)), calm := false, xe := fun _ _ => False }) hN hy (.inl hly) (pe_var (X := { X with A := X.A.mark (some (.ref e)), calm := false, xe := fun _ _ => False }) hn (.inl hln) hdn hcn) hs2 (.inr hly))) pins s6 _ _
        { nx := fun σ' H'' => σ' = (σ1.set i (some (.ref e))).set j (some (.ref e)) ∧ H'' = upd H' e (XOld e C dx), rt := fun _ _ => False } I6 ⟨.ref e, by rw [List.getElem?_set_self hiσ], rfl, rfl⟩) (fun fl s7 hf => ?_) fun _ _ z => z
      cases fl with
      | ret u => obtain ⟨_, _, _, _, _, z⟩ := hf; exact z.elim
      | brk => obtain ⟨_, _, _, z⟩ := hf; exact z.elim
      | cont => obtain ⟨_, _, _, z⟩ := hf; exact z.elim
      | next =>
        obtain ⟨σ', H'', I7, e1, e2⟩ := hf
        subst e1 e2
        obtain ⟨m, nm, hl7⟩ := I7.loc
        have hkd : (X.env.scope.kind == ScopeKind.«class» || (X.env.scope.kind == ScopeKind.«module» && X.env.locals != X.env.globals)) = false := by rw [I.ok.kind]; rfl
        refine Fly.gone hln nm hkd fun h8 u8 ns8 sb8 => ⟨_, _, ?_, q e hee⟩
        have J : Inv X pins _ _ s7 := ⟨I.ok, I7.os, I7.bare, I7.base, I7.loc, I7.cell, I7.free, I7.freeC, I7.pin, I7.hok, I7.len⟩
        exact J.unset hN hn nm hl7 ns8 sb8
end
end L2


set_option Elab.async false
set_option maxRecDepth 100000
set_option maxHeartbeats 4000000
/-! A slice of a tuple, the whole of it too; tuples of data cut and put together; t * n; t != () -/
namespace HT
open PySem PyProof.Rows
section
variable {prog : Program} {w : World} {A : Around} {E : Value → Shared → Prop} {s : Shared}
theorem getItem_tuple_whole {t sl : Addr} {items : Array Value} {vl vu : Value} {lo hi : Option Int} {Q : Value → Shared → Prop} (ht : IsTup s.heap t items) (hs : s.heap.IsSliceOf sl vl vu .none) (pl : IsPart vl lo) (pu : IsPart vu hi)
    (hw : sIx items.size 0 lo = 0 ∧ sIx items.size items.size hi = items.size) (h : Q (.ref t) s) : wpAny (model prog w) A (getItem (.ref t) (.ref sl)) Q E s := by
  obtain ⟨os, hos, hcs, hds⟩ := id hs
  have hTs : s.TypeIs (.ref sl) "slice" := ⟨os, hos, hcs⟩
  unfold getItem
  try with_reducible refine wpAny_holding ?_
  first | refine wpAny_bind (wpAny_pure ?_) | skip
  refine wpAny_bind (wpAny_sequenceKey ht.typeIs (by decide) ?_)
  refine wpAny_bind (wpAny_callSpecial?_slot (name := Str.ofString "__getitem__") ht.typeIs PyProof.Rows.slot_tuple_getitem
    (wpAny_call_entry PyProof.Rows.slot_tuple_getitem ht.typeIs entry_tuple_getitem ?_ (args_tuple_getitem _ _)))
  show wpAny _ _ (Builtin.Tuple.tupleItemsOf (.ref t) >>= _) _ _ s
  refine wpAny_bind (tupleItemsOf_ ht ?_)
  refine wpAny_bind (wpAny_typeOf hTs ?_)
  rw [if_pos (by decide)]
  refine wpAny_bind (sliceApplied_gen hs pl pu ?_)
  have hyes : ((((sIx items.size 0 lo : Nat) : Int) == 0 && (1 : Int) == 1 && (sIx items.size items.size hi - sIx items.size 0 lo) == items.size) = true) := by
    rw [hw.1, hw.2]; simp
  show wpAny _ _ (if (((sIx items.size 0 lo : Nat) : Int) == 0 && (1 : Int) == 1 && (sIx items.size items.size hi - sIx items.size 0 lo) == items.size) = true then _ else _) _ _ s
  rw [if_pos hyes]
  unfold Builtin.Tuple.tupleIsExact
  refine wpAny_bind (wpAny_bind (wpAny_typeOf ht.typeIs (wpAny_pure ?_)))
  rw [if_pos (by decide)]
  exact wpAny_bind (wpAny_rule (wpAny_pure ⟨_, rfl, wpAny_pure h⟩))
end
end HT
namespace L2
open PySem PySem.Spec PyProof.Rows
section
variable {X : Cx}
def wholeV (xs : List V) (lo hi : Option Int) : Prop := HT.sIx xs.length 0 lo = 0 ∧ HT.sIx xs.length xs.length hi = xs.length
def rSlT0 (K : PySem.W.Frag) : V → Option Int → Option Int → Hp → VK → Prop := fun x lo hi H Q => ∃ a xs, x = .ref a ∧ SqT K H a xs ∧ wholeV xs lo hi ∧ Q (.ref a) H
theorem sl_tup0 : SlR X (rSlT0 X.K) := by
  intro pins s σ H x v vl vu lo hi sl Q I rx hs pl pu h
  obtain ⟨a, xs, rfl, hx, hw, q⟩ := h
  cases rx
  obtain ⟨its, r, ht, hz⟩ := I.tuple hx
  have hlen : its.toArray.size = xs.length := by rw [List.size_toArray]; exact r.length.symm
  refine ⟨"tuple", _, PyProof.Rows.slot_tuple_getitem.lookup, ht.typeIs, ?_⟩
  exact HT.getItem_tuple_whole ht hs pl pu (by rw [hlen]; exact hw) ⟨.ref a, H, I, rfl, q⟩
def rSlW (K : PySem.W.Frag) : V → Option Int → Option Int → Hp → VK → Prop := fun x lo hi H Q => rSlT K x lo hi H Q ∨ rSlT0 K x lo hi H Q
theorem sl_tupW : SlR X (rSlW X.K) := sl_tup.or sl_tup0
end
theorem Holds.take {K : PySem.W.Frag} {H : Hp} : ∀ {xs : List V} {ds : List Da}, Holds K H xs ds → ∀ n, Holds K H (xs.take n) (ds.take n)
  | [], _, h, n => by cases h; rw [List.take_nil, List.take_nil]; exact .nil
  | _ :: _, _, h, 0 => by cases h; exact .nil
  | _ :: _, _, h, n + 1 => by
    cases h with
    | cons a r => exact .cons a (Holds.take r n)
theorem Holds.drop {K : PySem.W.Frag} {H : Hp} : ∀ {xs : List V} {ds : List Da}, Holds K H xs ds → ∀ n, Holds K H (xs.drop n) (ds.drop n)
  | [], _, h, n => by cases h; rw [List.drop_nil, List.drop_nil]; exact .nil
  | _ :: _, _, h, 0 => h
  | _ :: _, _, h, n + 1 => by
    cases h with
    | cons a r => exact Holds.drop r n
def cutL {α : Type} (xs : List α) (lo hi : Option Int) : List α := (xs.drop (HT.sIx xs.length 0 lo)).take (HT.sIx xs.length xs.length hi - HT.sIx xs.length 0 lo)
theorem cutL_map {α β : Type} (f : α → β) (xs : List α) (lo hi : Option Int) : cutL (xs.map f) lo hi = (cutL xs lo hi).map f := by
  unfold cutL
  rw [List.length_map, ← List.map_drop, ← List.map_take]
theorem sameN {H : Hp} {p : Addr} (h : H p = none) (o : HO) : Same H (upd H p o) := fun b u q => by rw [upd_ne (ne_of_none q h)]; exact q
/-- a slice of a tuple of data -/
theorem cut_hold {K : PySem.W.Frag} {H : Hp} {a : Addr} {ds : List Da} {lo hi : Option Int} {Q : VK} (h : Hold K H (.ref a) (.tup ds)) (q : ∀ b G, Same H G → Hold K G (.ref b) (.tup (cutL ds lo hi)) → Q (.ref b) G) : rSlW K (.ref a) lo hi H Q := by
  obtain ⟨a', xs, e, ha, hd⟩ := Hold.tupI h
  cases e
  have l := hd.length
  by_cases w : wholeV xs lo hi
  · refine .inr ⟨a, xs, rfl, ha, w, q a H (fun _ _ z => z) ?_⟩
    have e : cutL ds lo hi = ds := by
      unfold cutL
      rw [← l, w.1, w.2, List.drop_zero, Nat.sub_zero, l, List.take_length]
    rw [e]; exact h
  · refine .inl ⟨a, xs, rfl, ha, w, fun p hp => q p _ (sameN hp _) (.tup (SqT.of upd_same) (Holds.mono (sameN hp _) ?_))⟩
    unfold cutV cutL
    rw [← l]
    exact Holds.take (Holds.drop hd _) _
/-- two tuples of data, one behind the other -/
theorem cat_hold {K : PySem.W.Frag} {H : Hp} {a b : Addr} {ds es : List Da} {Q : VK} (h : Hold K H (.ref a) (.tup ds)) (h' : Hold K H (.ref b) (.tup es)) (hz : ds.length + es.length ≤ 1000) (q : ∀ c G, Same H G → Hold K G (.ref c) (.tup (ds ++ es)) → Q (.ref c) G) :
    rCatT K (.ref a) (.ref b) H Q ∨ rCatT0 K (.ref a) (.ref b) H Q := by
  obtain ⟨a', xs, e, ha, hd⟩ := Hold.tupI h
  obtain ⟨b', ys, e', hb, hd'⟩ := Hold.tupI h'
  cases e
  cases e'
  have l := hd.length
  have l' := hd'.length
  by_cases x0 : xs = []
  · subst x0
    have : ds = [] := List.length_eq_zero_iff.mp l.symm
    subst this
    exact .inr ⟨a, b, ys, rfl, rfl, ha, hb, q b H (fun _ _ z => z) h'⟩
  · refine .inl ⟨a, b, xs, ys, rfl, rfl, ha, hb, x0, Nat.le_of_lt (small1000 (by omega)), fun y0 => ?_, fun y0 p hp => ?_⟩
    · subst y0
      have : es = [] := List.length_eq_zero_iff.mp l'.symm
      subst this
      rw [List.append_nil] at q
      exact q a H (fun _ _ z => z) h
    · exact q p _ (sameN hp _) (.tup (SqT.of upd_same) (Holds.mono (sameN hp _) (Holds.append hd hd')))
section
variable {X : Cx}
/-- t != u, of unlike lengths or both empty -/
def rNeT (K : PySem.W.Frag) : R2 := fun x y H Q => ∃ a b xs, x = .ref a ∧ y = .ref b ∧ SqT K H a xs ∧ SqT K H b [] ∧ Q (.bl (!xs.isEmpty)) H
theorem op_neT0 (hu : X.A.units + 64 < cLine) : OpR X (compareOp .NotEq) (rNeT X.K) := by
  intro pins s σ H x y v u Q I rx ry h
  obtain ⟨a, b, xs, rfl, rfl, ha, hb, q⟩ := h
  cases rx
  cases ry
  obtain ⟨its, r1, p1, _⟩ := I.tuple ha
  obtain ⟨its2, r2, p2, _⟩ := I.tuple hb
  cases r2
  have qn := SeqAt.RcNeAt.tuples (s := s) (A := X.A) (e := fun _ => true) (show s.heap.IsTuple a its.toArray from p1) (show s.heap.IsTuple b ([] : List Value).toArray from p2) (by omega) (fun j h1 h2 => absurd h2 (by simp))
  have qm : SeqAt.RcNeAt X.A s (.ref a) (.ref b) (!xs.isEmpty) := by
    cases r1 with
    | nil => simpa using qn
    | cons _ _ => simpa using qn
  exact qm _ _ _ _ (show EP X pins σ Q (.bool (!xs.isEmpty)) s from ⟨.bl _, H, I, rfl, q⟩)
end
end L2


set_option Elab.async false
set_option maxRecDepth 100000
set_option maxHeartbeats 4000000
/-! t * n, a tuple of one -/
namespace PySem
theorem noFill_tuple_mul : fillsNumberSlot (.type "tuple") "mul" = pure false := by
  first | rfl | with_unfolding_all rfl
theorem repeat_tuple : seqRepeat? (.type "tuple") = pure (some (.builtin "tuple.__mul__")) := by
  first | rfl | with_unfolding_all rfl
theorem int___rmul___int_tuple (a : Int) (t : Tok) (l : Addr) (items : Array Value) (n : Nat) (dd : Option Addr) (sl : Array (Option Value)) :
    Meets (Builtin.«int.__rmul__» ⟨[.int a t, .ref l], []⟩) (fun _ R s => s.heap.get? l = some { cls := .type "tuple", dict := dd, data := .seq items n, slots := sl } ∧ R (.ok (.ret Value.notImplemented)) s) :=
  .of_wp fun prog w A R s h => by obtain ⟨hp, g, d, tk, os⟩ := s; obtain ⟨hl, h⟩ := h; wp_walk; exact ⟨_, rfl, h⟩
theorem tuple___mul___one (l : Addr) (v : Value) (n : Nat) (k : Int) (t : Tok) (dd : Option Addr) (sl : Array (Option Value)) (h1 : 1 ≤ k) (h2 : k ≤ 100) :
    Meets (Builtin.«tuple.__mul__» ⟨[.ref l, .int k t], []⟩) (fun _ R s => s.heap.get? l = some { cls := .type "tuple", dict := dd, data := .seq #[v] n, slots := sl } ∧ (k = 1 → R (.ok (.ret (.ref l))) s) ∧
      (k ≠ 1 → R (.ok (.ret (.ref s.heap.objs.size))) { s with heap := s.heap.push { cls := .type "tuple", data := .seq ((List.replicate k.toNat #[v]).foldl (· ++ ·) #[]) } })) :=
  .of_wp fun prog w A R s h => by
    obtain ⟨hp, g, d, tk, os⟩ := s
    obtain ⟨hl, q1, q2⟩ := h
    wp_walk
    have ht : PyProof.Rows.IsTup hp l #[v] := ⟨_, hl, rfl, n, rfl⟩
    have e1 : ¬ ((decide (k < -2 ^ 63) || decide (k ≥ 2 ^ 63)) = true) := by
      rw [Bool.or_eq_true, decide_eq_true_iff, decide_eq_true_iff]
      omega
    rw [if_neg e1]
    dsimp only
    refine wpAny_bind (PyProof.Rows.tupleItemsOf_ ht ?_)
    by_cases hk : k = 1
    · subst hk
      rw [if_pos (by simp)]
      unfold Builtin.Tuple.tupleIsExact
      refine wpAny_bind (wpAny_bind (wpAny_typeOf ht.typeIs (wpAny_pure ?_)))
      rw [if_pos (by decide)]
      exact wpAny_bind (wpAny_rule (wpAny_pure ⟨_, rfl, q1 rfl⟩))
    · rw [if_neg (by simpa using hk), if_neg (by simp; omega)]
      rw [if_neg (by simp; omega)]
      rw [if_neg (by unfold Builtin.Tuple.tupleTooMany; simp [sizeLine]; omega)]
      have hz : sizeOk (.seq ((List.replicate k.toNat #[v]).foldl (· ++ ·) #[])) := by
        show ((List.replicate k.toNat #[v]).foldl (· ++ ·) #[]).size ≤ sizeLine
        have e := L2.foldl_rep [v] k.toNat []
        rw [List.nil_append] at e
        have e' : (List.replicate k.toNat #[v]).foldl (· ++ ·) #[] = (List.replicate k.toNat [v]).flatten.toArray := e
        rw [e', List.size_toArray, L2.len_rep, sizeLine_eq]
        simp; omega
      first
        | exact wpAny_bind (m := Builtin.Tuple.tupleExact _) (wpAny_newObj_type (wpAny_pure ⟨_, rfl, q2 hk⟩) hz)
        | exact wpAny_bind (m := Builtin.Tuple.tupleExact _) (wpAny_newObj_type (wpAny_bind (wpAny_pure (wpAny_pure ⟨_, rfl, q2 hk⟩))) hz)
        | exact wpAny_bind (wpAny_bind (m := Builtin.Tuple.tupleExact _) (wpAny_newObj_type (wpAny_pure (wpAny_pure ⟨_, rfl, q2 hk⟩)) hz))
end PySem
namespace L2
open PySem PySem.Spec PyProof.Rows
section
variable {X : Cx}
/-- (x,) * n: what it is, isn't asked -/
def rRepT (K : PySem.W.Frag) : R2 := fun x y H Q => ∃ a z k, x = .ref a ∧ y = .int k ∧ H a = some (.tup [z]) ∧ 1 ≤ k ∧ k ≤ 100 ∧ ∀ p G, Same H G → Q (.ref p) G
theorem op_repT : OpR X (binaryOp .Mult) (rRepT X.K) := by
  intro pins s σ H x y v u Q I rx ry h
  obtain ⟨a, z, k, rfl, rfl, ha, h1, h2, q⟩ := h
  cases rx
  obtain ⟨t, rfl⟩ := ry
  obtain ⟨hz, its, r, o, e1, e2, n, e3⟩ := (show ObjOk X.prog X.w H s.heap a (.tup [z]) from I.hok a _ ha)
  obtain ⟨u0, rfl, ru⟩ := vals1 r
  obtain ⟨oc, od, odt, osl⟩ := o
  obtain rfl : oc = .type "tuple" := e2
  obtain rfl : odt = .seq [u0].toArray n := e3
  refine wpAny_binaryOp_repeat_ref (T := "tuple") (U := "int") (by decide) ⟨_, e1, rfl⟩ (fun s' => typeIs_int s' k t) noFill_tuple_mul F.fills_int_mul F.slot_int_rmul repeat_tuple F.slot_int_index.lookup
    (call_meets F.slot_int_rmul (typeIs_int s k t) F.entry_int_rmul (F.args_int_rmul_2 _ _) (int___rmul___int_tuple k t a _ n od osl)
      ⟨e1, rfl, ⟨_, e1, rfl⟩, call_meets F.slot_tuple_mul ⟨_, e1, rfl⟩ F.entry_tuple_mul (F.args_tuple_mul_2 _ _) (tuple___mul___one a u0 n k t od osl h1 h2) ⟨e1, fun k1 => ?_, fun k1 => ?_⟩⟩)
  · exact ⟨.ref a, H, I, rfl, q a H (fun _ _ z => z)⟩
  · have e := foldl_rep [u0] k.toNat []
    rw [List.nil_append] at e
    have e' : (List.replicate k.toNat #[u0]).foldl (· ++ ·) #[] = (List.replicate k.toNat [u0]).flatten.toArray := e
    have fr := I.hok.fresh (Nat.le_refl _)
    refine ⟨.ref s.heap.objs.size, _, I.laid (t' := s.toks) (o := .tup (List.replicate k.toNat [z]).flatten) (fun b ob q => Heap.get?_push_of_some _ q) (Nat.le_refl _) ?_, rfl, q _ _ (sameN fr _)⟩
    refine ⟨?_, (List.replicate k.toNat [u0]).flatten, Vals.rep (.cons ru .nil) k.toNat, ?_⟩
    · rw [len_rep, sizeLine_eq]; simp; omega
    · rw [e']; exact IsTup.new _ _
end
end L2


set_option Elab.async false
set_option maxRecDepth 100000
set_option maxHeartbeats 4000000
/-! k72, the model -/
/-! k11, the model -/
/-! sayings as data of our own: their parts, whether one is a test, its notes -/
namespace S7
open PySem L2
/-- a word, a number: not too great to be told -/
abbrev Fld := { f : Str // (reprText f).length ≤ 2000 }
abbrev Num := { v : Int // v.natAbs.log2 < 1000 }
inductive Say where
  | nought | every | note
  | is (f : Fld) (v : Num)
  | put (f : Fld) (v : Num)
  | no (s : Say)
  | again (s : Say)
  | either (a b : Say)
  | both (a b : Say)
def Say.sort : Say → Str
  | .nought => "none" | .every => "all" | .note => "note" | .is _ _ => "is" | .put _ _ => "put" | .no _ => "not" | .again _ => "again" | .either _ _ => "either" | .both _ _ => "then"
def Say.kids : Say → List Say
  | .no s => [s] | .again s => [s] | .either a b => [a, b] | .both a b => [a, b] | _ => []
def Say.parts : Say → List Say
  | .no s => .no s :: s.parts
  | .again s => .again s :: s.parts
  | .either a b => .either a b :: (a.parts ++ b.parts)
  | .both a b => .both a b :: (a.parts ++ b.parts)
  | s => [s]
def Say.size : Say → Nat
  | .no s => s.size + 1
  | .again s => s.size + 1
  | .either a b => a.size + b.size + 1
  | .both a b => a.size + b.size + 1
  | _ => 1
def Say.isT : Say → Bool
  | .no s => s.isT
  | .either a b => a.isT && b.isT
  | .both a b => a.isT && b.isT
  | .nought => true | .every => true | .is _ _ => true
  | _ => false
def Say.nts : Say → Nat
  | .no s => s.nts
  | .again s => s.nts
  | .either a b => a.nts + b.nts
  | .both a b => a.nts + b.nts
  | .note => 1
  | _ => 0
def Say.inT : Say → Bool
  | .nought => true | .every => true | .is _ _ => true | .no _ => true | .either _ _ => true | .both _ _ => true
  | _ => false
def Say.isN : Say → Bool
  | .note => true
  | _ => false
def Say.hasK : Say → Bool
  | .no _ => true | .again _ => true | .either _ _ => true | .both _ _ => true
  | _ => false
theorem parts_eq (s : Say) : s.parts = s :: s.kids.flatMap Say.parts := by
  cases s <;> simp [Say.parts, Say.kids]
theorem size_eq (s : Say) : s.size = (s.kids.map Say.size).sum + 1 := by
  cases s <;> simp [Say.size, Say.kids]
theorem size_pos (s : Say) : 1 ≤ s.size := by rw [size_eq]; omega
theorem parts_len (s : Say) : s.parts.length = s.size := by
  induction s with
  | no s ih => simp [Say.parts, Say.size, ih]
  | again s ih => simp [Say.parts, Say.size, ih]
  | either a b ia ib => simp [Say.parts, Say.size, ia, ib]
  | both a b ia ib => simp [Say.parts, Say.size, ia, ib]
  | _ => rfl
theorem parts_test (s : Say) : s.parts.all Say.inT = s.isT := by
  induction s with
  | no s ih => simp [Say.parts, Say.isT, ← ih, Say.inT]
  | again s ih => simp [Say.parts, Say.isT, Say.inT]
  | either a b ia ib => simp [Say.parts, Say.isT, ← ia, ← ib, Say.inT]
  | both a b ia ib => simp [Say.parts, Say.isT, ← ia, ← ib, Say.inT]
  | _ => rfl
theorem parts_notes (s : Say) : (s.parts.filter Say.isN).length = s.nts := by
  induction s with
  | no s ih => simp [Say.parts, Say.nts, ← ih, Say.isN]
  | again s ih => simp [Say.parts, Say.nts, ← ih, Say.isN]
  | either a b ia ib => simp [Say.parts, Say.nts, ← ia, ← ib, Say.isN]
  | both a b ia ib => simp [Say.parts, Say.nts, ← ia, ← ib, Say.isN]
  | _ => rfl
theorem nts_le (s : Say) : s.nts ≤ s.size := by
  rw [← parts_notes, ← parts_len]
  exact List.length_filter_le _ _
theorem test_no_notes : ∀ s : Say, s.isT = true → s.nts = 0
  | .nought, _ => rfl | .every, _ => rfl | .is _ _, _ => rfl
  | .note, h => by cases h
  | .put _ _, h => by cases h
  | .again _, h => by cases h
  | .no s, h => test_no_notes s h
  | .either a b, h => by
    have z : (a.isT && b.isT) = true := h
    rw [Bool.and_eq_true] at z
    show a.nts + b.nts = 0
    rw [test_no_notes a z.1, test_no_notes b z.2]
  | .both a b, h => by
    have z : (a.isT && b.isT) = true := h
    rw [Bool.and_eq_true] at z
    show a.nts + b.nts = 0
    rw [test_no_notes a z.1, test_no_notes b z.2]
/-- the tuple of a saying -/
def Say.da : Say → Da
  | .is f v => .tup [.flat (.str "is"), .flat (.str f.1), .flat (.int v.1)]
  | .put f v => .tup [.flat (.str "put"), .flat (.str f.1), .flat (.int v.1)]
  | .no s => .tup [.flat (.str "not"), s.da]
  | .again s => .tup [.flat (.str "again"), s.da]
  | .either a b => .tup [.flat (.str "either"), a.da, b.da]
  | .both a b => .tup [.flat (.str "then"), a.da, b.da]
  | .nought => .tup [.flat (.str "none")]
  | .every => .tup [.flat (.str "all")]
  | .note => .tup [.flat (.str "note")]
theorem da_fix (s : Say) : s.da.fix = true := by
  induction s with
  | no s ih => simp [Say.da, Da.fix, fixL, ih]
  | again s ih => simp [Say.da, Da.fix, fixL, ih]
  | either a b ia ib => simp [Say.da, Da.fix, fixL, ia, ib]
  | both a b ia ib => simp [Say.da, Da.fix, fixL, ia, ib]
  | _ => simp [Say.da, Da.fix, fixL]
/-- its tuple: the sort's word, and behind it, where there are sayings in it, these alone -/
theorem da_open {K : PySem.W.Frag} {H : Hp} {x : V} {s : Say} (h : Hold K H x s.da) : ∃ a xs, x = .ref a ∧ SqT K H a (.str s.sort :: xs) ∧ (s.hasK = true → Holds K H xs (s.kids.map Say.da)) := by
  cases s
  all_goals
    obtain ⟨a, ys, e, ha, hd⟩ := Hold.tupI h
    cases hd with
    | cons h1 r1 =>
      cases h1.flatI
      refine ⟨a, _, e, ha, fun q => ?_⟩
      first | exact r1 | (cases q)
theorem kids_no {s : Say} (h : s.hasK = false) : s.kids = [] := by cases s <;> first | rfl | cases h
def HS : List V := [.str "not", .str "either", .str "then", .str "again"]
def TS : List V := [.str "none", .str "all", .str "is", .str "not", .str "either", .str "then"]
theorem in_HS (s : Say) : inV (.str s.sort) HS = s.hasK := by cases s <;> kernel_rfl
theorem in_TS (s : Say) : inV (.str s.sort) S7.TS = s.inT := by cases s <;> kernel_rfl
theorem is_N (s : Say) : decide (V.str s.sort = V.str "note") = s.isN := by cases s <;> kernel_rfl
end S7


set_option Elab.async false
/-! letters, as a list of lists: how many, how long, in order -/
namespace S1
def longer (acc : List (List Int)) (c : Nat) : List (List Int) := acc.flatMap fun l => (List.range c).map fun (v : Nat) => l ++ [(v : Int)]
def lettersFrom (acc : List (List Int)) (cs : List Nat) : List (List Int) := cs.foldl longer acc
def mul (cs : List Nat) : Nat := cs.foldl (· * ·) 1


/-- what all letters of n fields have -/
structure Good (cs : List Nat) (ls : List (List Int)) : Prop where
  wide : ∀ l ∈ ls, l.length = cs.length
  rng : ∀ l ∈ ls, ∀ (i : Nat) (v : Int), l[i]? = some v → ∃ c, cs[i]? = some c ∧ 0 ≤ v ∧ v < (c : Int)
  ord : ls.Pairwise fun a b => HT.lexLt a b = true



def letters (cs : List Nat) : List (List Int) := lettersFrom [[]] cs
end S1


set_option Elab.async false
set_option maxRecDepth 100000
set_option maxHeartbeats 4000000
/-! k72, the draws -/
/-! k11, the draws -/
/-! k02, first part: the draws. A purse is a list of two numbers, nought or more; a take leaves such a one. -/
namespace S7
open PySem L2
def top (i : Nat) : Stmt := PySem.Challenge.pw_switchsay_k72_no_net.main.body.getD i (.Pass ⟨0, 0, 0, 0⟩)
abbrev sNF : Stmt := inClass (top 2) 0
abbrev sNV : Stmt := inClass (top 3) 0
abbrev sNT : Stmt := inClass (top 4) 0
abbrev sNP : Stmt := inClass (top 5) 0
abbrev sTG : Stmt := inClass (top 6) 0
abbrev sPlace : Stmt := top 11
abbrev sMust : Stmt := top 12
abbrev sParts : Stmt := top 26
abbrev sHeld : Stmt := top 27
abbrev sMSay : Stmt := top 28
abbrev sMPart : Stmt := top 29
abbrev sIsT : Stmt := top 30
abbrev sNts : Stmt := top 31
abbrev sMTest : Stmt := top 32
abbrev sMPlain : Stmt := top 33
abbrev sMNet : Stmt := top 69
abbrev sMTie : Stmt := top 70
abbrev sHops : Stmt := top 71
abbrev sTabs : Stmt := top 72
abbrev sSayOf : Stmt := top 78
abbrev sCell : Stmt := top 87
abbrev sPurse : Stmt := top 88
abbrev sTake : Stmt := top 89
abbrev sSpeech : Stmt := top 90
abbrev sLone : Stmt := top 91
abbrev sGrown : Stmt := top 92
abbrev sJoined : Stmt := top 93
abbrev sSaying : Stmt := top 94
abbrev sNet : Stmt := top 95
abbrev sLIsT : Stmt := top 96
abbrev sLNote : Stmt := top 97
abbrev sDue : Stmt := top 98
abbrev sNDue : Stmt := top 99
abbrev sStrange : Stmt := top 100
abbrev sSpoiled : Stmt := top 101
abbrev sCaught : Stmt := top 102
abbrev sRefused : Stmt := top 103
abbrev sGood : Stmt := top 104
abbrev sLaw : Stmt := top 105

theorem small {n : Nat} (h : n ≤ 1000) : n ≤ sizeLine := Nat.le_of_lt (small1000 h)
theorem same_new {H : Hp} {p : Addr} (h : H p = none) (o : HO) : Same H (upd H p o) := fun b u q => by rw [upd_ne (ne_of_none q h)]; exact q
theorem Same.put {H G : Hp} {r : Addr} (e : Same H G) (h : H r = none) (o : HO) : Same H (upd G r o) := fun b u q => by rw [upd_ne (ne_of_none q h)]; exact e b u q
/-- all but r is as it was -/
def Keep (r : Addr) (H H' : Hp) : Prop := ∀ b o, b ≠ r → H b = some o → H' b = some o
theorem Same.keep {H G G' : Hp} {r : Addr} (e : Same H G) (h : H r = none) (k : Keep r G G') : Same H G' := fun b u q => k b u (ne_of_none q h) (e b u q)
theorem emod_rng (a : Int) {m : Int} (h : 0 < m) : 0 ≤ a % m ∧ a % m < m := ⟨Int.emod_nonneg _ (Int.ne_of_gt h), Int.emod_lt_of_pos _ h⟩
theorem menu {ns : List Int} {v : Int} (h0 : 0 ≤ v) (h1 : v < (ns.length : Int)) : ∃ x ∈ ns, atI (ns.map V.int) v = some (.int x) := by
  have hk : v.toNat < ns.length := by omega
  have ek : v = ((v.toNat : Nat) : Int) := by omega
  have q : atI (ns.map V.int) ((v.toNat : Nat) : Int) = some (.int ns[v.toNat]) := atI_nat (by rw [List.getElem?_map, List.getElem?_eq_getElem hk] <;> rfl)
  rw [← ek] at q
  exact ⟨_, List.getElem_mem hk, q⟩

def pairD (w : Str × Nat) : Da := .tup [.flat (.str w.1), .flat (.int (w.2 : Int))]
def speechD (ws : List (Str × Nat)) : Da := .tup (ws.map pairD)
/-- a word of eight small letters at most -/
structure WordOk (x : Str) : Prop where
  len : x.length ≤ 8
  cps : ∀ c ∈ x.cps.toList, 97 ≤ c ∧ c ≤ 122
structure SpeechOk (ws : List (Str × Nat)) : Prop where
  lo : 1 ≤ ws.length
  hi : ws.length ≤ 3
  cnt : ∀ w ∈ ws, 1 ≤ w.2 ∧ w.2 ≤ 6
  word : ∀ w ∈ ws, WordOk w.1

def spPurse : Sp := fun vs H Q _ => ∃ n : Int, vs = [.int n] ∧ ∀ (r : Addr) (a b : Int), H r = none → 0 ≤ a → 0 ≤ b → Q (.ref r) (upd H r (.lst [.int a, .int b]))
def spTake : Sp := fun vs H Q _ => ∃ (r : Addr) (a b m : Int), vs = [.ref r, .int m] ∧ H r = some (.lst [.int a, .int b]) ∧ 0 ≤ a ∧ 0 ≤ b ∧ 0 < m ∧ m < 1073741824 ∧
  ∀ (v a' b' : Int) (H' : Hp), 0 ≤ v → v < m → 0 ≤ a' → 0 ≤ b' → H' r = some (.lst [.int a', .int b']) → Keep r H H' → Q (.int v) H'
def spSpeech (K : PySem.W.Frag) : Sp := fun vs H Q _ => ∃ (n l : Int), vs = [.int n, .int l] ∧ 1 ≤ l ∧ l ≤ 3 ∧
  ∀ (sp : Addr) (ws : List (Str × Nat)) (H' : Hp), Same H H' → Hold K H' (.ref sp) (speechD ws) → SpeechOk ws → l ≤ (ws.length : Int) → Q (.ref sp) H'

section
variable {P : Program} {w : World} {K : PySem.W.Frag} {mg : Str → Option Value} {base : Heap}
theorem scPu : FnScope ["_law_cell_here", "_law_number", "_law_found", "_law_k"] ["_law_cell_here"] (defScope sPurse) := ⟨rfl, rfl, rfl, by decide +kernel, rfl, by decide +kernel, by decide +kernel⟩
theorem ok_purse {f : Addr} {fd : FuncData} (F : Fun K "_law_purse" "_law_purse" sPurse f fd) (mr : mg "range" = none) (ma : mg "abs" = none) : FnOk P w K mg base CX0 1 f fd ["_law_cell_here"] spPurse := by
  refine F.ok scPu (fun vs H Q E h => ?_) (fun cdv A outer s H vs Q E hr h => ?_)
  · obtain ⟨n, rfl, _⟩ := h
    rfl
  obtain ⟨n, rfl, q⟩ := h
  refine ⟨_, pss_cons (ps_set (i := 1) scPu.nd rfl (Or.inl rfl) (pe_op op_mod (pv 0) pe_int))
    (pss_cons (ps_set (i := 2) scPu.nd rfl (Or.inl rfl) pe_int)
    (pss_cons (ps_for PassesOwn.never rfl (pi_range1 rfl mr (pa_cons pe_int pa_nil)) (pg_name (i := 3) scPu.nd rfl (Or.inl rfl))
      (pss_cons (ps_set (i := 1) scPu.nd rfl (Or.inl rfl) (pe_op op_mod (pe_op op_add (pe_op op_add (pe_op op_add (pe_op op_mul (pv 1) (pv 1)) (pe_op op_mul (pe_op op_mul pe_int (pv 3)) (pv 3))) (pv 3)) pe_int) pe_int))
      (pss_one (ps_set (i := 2) scPu.nd rfl (Or.inl rfl) (pe_op op_add (pe_op op_mul (pv 2) pe_int) (pe_op op_mod (pe_op op_mul (pv 1) (pv 1)) pe_int))))))
    (pss_cons (ps_if (pt_cmpR op_eq (pe_op op_mod (pv 0) pe_int) pe_int (nomark _))
      (pss_one (ps_ret (pe_lst (pa_cons (pe_op op_fdiv (pe_callB call_abs rfl ma (by kernel_rfl) (pa_cons (pv 0) pa_nil)) pe_int) (pa_cons (pv 2) pa_nil))))) pss_nil)
    (pss_one (ps_ret (pe_lst (pa_cons pe_int (pa_cons (pv 2) pa_nil)))))))), ?_⟩
  have r0 := emod_rng n (m := 2147483647) (by decide)
  refine ⟨_, rfl, _, _, rfl, rfl, (by show (0 : Int) < 2147483647; decide), 16, rfl, by decide, by decide,
    for_range (n := 16) (fun i σ G => ∃ (x y : Int) (v : Option V), σ = [some (.int n), some (.int x), some (.int y), v] ∧ G = H ∧ 0 ≤ x ∧ x < 2147483647 ∧ 0 ≤ y)
      ⟨_, _, _, rfl, rfl, r0.1, r0.2, by decide⟩ ?_ ?_⟩
  · rintro i σ G hi ⟨x, y, v, rfl, rfl, h1, h2, h3⟩
    refine ⟨_, rfl, _, rfl, _, _, rfl, rfl, .inl ⟨by omega, by omega⟩, _, rfl, _, _, rfl, rfl, .inl ⟨by decide, by decide⟩, _, rfl, _, _, rfl, rfl, .inr ⟨by omega, by omega⟩, _, _, rfl, rfl, _, rfl, _, _, rfl, rfl, _, _, rfl, rfl, _, _, rfl, rfl, (by show (0 : Int) < 2147483629; decide), ?_⟩
    have r1 := emod_rng (x * x + 48271 * (0 + (i : Int)) * (0 + (i : Int)) + (0 + (i : Int)) + 3) (m := 2147483629) (by decide)
    have r2 := emod_rng ((x * x + 48271 * (0 + (i : Int)) * (0 + (i : Int)) + (0 + (i : Int)) + 3) % 2147483629 * ((x * x + 48271 * (0 + (i : Int)) * (0 + (i : Int)) + (0 + (i : Int)) + 3) % 2147483629)) (m := 2147483587) (by decide)
    refine ⟨_, rfl, _, _, rfl, rfl, .inr ⟨by decide, by decide⟩, _, rfl, _, rfl, _, _, rfl, rfl, .inl ⟨Int.lt_of_lt_of_le (by decide) r1.1, Int.lt_trans r1.2 (by decide)⟩, _, _, rfl, rfl, (by show (0 : Int) < 2147483587; decide), _, _, rfl, rfl, ?_⟩
    refine ⟨_, _, _, rfl, rfl, r1.1, Int.lt_trans r1.2 (by decide), ?_⟩
    exact Int.add_nonneg (Int.mul_nonneg h3 (by decide)) r2.1
  · rintro σ G ⟨x, y, v, rfl, rfl, h1, h2, h3⟩
    refine ⟨_, rfl, _, _, rfl, rfl, (by show (0 : Int) < 2; decide), rfl, _, rfl, ?_⟩
    refine ite2 (fun _ => ?_) (fun _ => ?_)
    · refine ⟨_, rfl, _, rfl, _, _, rfl, rfl, ⟨by decide, by decide⟩, _, rfl, (by show 2 ≤ sizeLine; decide), fun r hr' => ?_⟩
      refine q r _ _ hr' ?_ h3
      have z : 0 ≤ (if n < 0 then -n else n) := by split <;> omega
      omega
    · refine ⟨_, rfl, (by show 2 ≤ sizeLine; decide), fun r hr' => ?_⟩
      exact q r _ _ hr' (Int.le_refl 0) h3

theorem scTa : FnScope ["_law_purse_here", "_law_many", "_law_at", "_law_found"] ["_law_purse_here", "_law_many"] (defScope sTake) := ⟨rfl, rfl, rfl, by decide +kernel, rfl, by decide +kernel, by decide +kernel⟩
theorem ok_take {f : Addr} {fd : FuncData} (F : Fun K "_law_take" "_law_take" sTake f fd) (mi : mg "int" = none) : FnOk P w K mg base CX0 1 f fd ["_law_purse_here", "_law_many"] spTake := by
  refine F.ok scTa (fun vs H Q E h => ?_) (fun cdv A outer s H vs Q E hr h => ?_)
  · obtain ⟨r, a, b, m, rfl, _⟩ := h
    rfl
  obtain ⟨r, a, b, m, rfl, hl, ha, hb, m0, m1, q⟩ := h
  refine ⟨_, pss_cons (ps_set (i := 2) scTa.nd rfl (Or.inl rfl) (pe_callTy call_int1 rfl mi (by kernel_rfl) (pa_cons (pe_cmpR op_eq (pe_ix ix_list (pv 0) pe_int (fun _ _ => rfl)) pe_int (nomark _)) pa_nil)))
    (pss_cons (ps_set (i := 3) scTa.nd rfl (Or.inl rfl) (pe_op op_mod (pe_ix ix_list (pv 0) (pv 2) (fun _ _ => rfl)) (pv 1)))
    (pss_cons (ps_asg (pe_op op_fdiv (pe_ix ix_list (pv 0) (pv 2) (fun _ _ => rfl)) (pv 1)) (pg_sub (pv 0) (pv 2) set_list))
    (pss_one (ps_ret (pv 3))))), ?_⟩
  refine ⟨_, rfl, r, _, _, _, rfl, rfl, SqL.of hl, rfl, rfl, .inr ⟨_, rfl, ?_⟩⟩
  have kp : ∀ o, Keep r H (upd H r o) := fun o c u hc e => by rw [upd_ne hc]; exact e
  generalize hk : decide (V.int a = V.int 0) = k
  cases k with
  | true =>
    refine ⟨_, rfl, _, rfl, r, _, _, _, rfl, rfl, SqL.of hl, rfl, _, rfl, _, _, rfl, rfl, m0, ?_⟩
    refine ⟨_, rfl, _, rfl, r, _, _, _, rfl, rfl, SqL.of hl, rfl, _, rfl, _, _, rfl, rfl, ⟨m0, m1⟩, _, rfl, _, rfl, r, _, _, _, rfl, rfl, hl, rfl, _, rfl, ?_⟩
    have r1 := emod_rng b m0
    exact q (b % m) a (b / m) _ r1.1 r1.2 ha (Int.ediv_nonneg hb (Int.le_of_lt m0)) upd_same (kp _)
  | false =>
    refine ⟨_, rfl, _, rfl, r, _, _, _, rfl, rfl, SqL.of hl, rfl, _, rfl, _, _, rfl, rfl, m0, ?_⟩
    refine ⟨_, rfl, _, rfl, r, _, _, _, rfl, rfl, SqL.of hl, rfl, _, rfl, _, _, rfl, rfl, ⟨m0, m1⟩, _, rfl, _, rfl, r, _, _, _, rfl, rfl, hl, rfl, _, rfl, ?_⟩
    have r1 := emod_rng a m0
    exact q (a % m) (a / m) b _ r1.1 r1.2 (Int.ediv_nonneg ha (Int.le_of_lt m0)) hb upd_same (kp _)
end
end S7


set_option Elab.async false
set_option maxRecDepth 100000
set_option maxHeartbeats 4000000
/-! k72, a speech is drawn -/
/-! k11, a speech is drawn -/
/-! k02, second part: a speech is drawn -/
namespace S7
open PySem L2
section
variable {P : Program} {w : World} {K : PySem.W.Frag} {mg : Str → Option Value} {base : Heap}
theorem scSp : FnScope ["_law_cell_here", "_law_least", "_law_purse_here", "_law_first", "_law_letters", "_law_left", "_law_many", "_law_tail", "_law_speech_here", "_law_k", "_law_count"] ["_law_cell_here", "_law_least"] (defScope sSpeech) :=
  ⟨rfl, rfl, rfl, by decide +kernel, rfl, by decide +kernel, by decide +kernel⟩
def abc : Str := "abcdefghijklmnopqrstuvwxyz"
theorem abc_len : abc.cps.toList.length = 26 := by decide +kernel
theorem abc_rng : ∀ c ∈ abc.cps.toList, 97 ≤ c ∧ c ≤ 122 := by decide +kernel
theorem abc_at {v : Int} (h0 : 0 ≤ v) (h1 : v < 26) : ∃ c, atI abc.cps.toList v = some c ∧ 97 ≤ c ∧ c ≤ 122 := by
  have hk : v.toNat < abc.cps.toList.length := by rw [abc_len]; omega
  have ek : v = ((v.toNat : Nat) : Int) := by omega
  have q : atI abc.cps.toList ((v.toNat : Nat) : Int) = some abc.cps.toList[v.toNat] := atI_nat (List.getElem?_eq_getElem hk)
  rw [← ek] at q
  exact ⟨_, q, abc_rng _ (List.getElem_mem hk)⟩
theorem tail_rng {v : Int} (h0 : 0 ≤ v) (h1 : v < 8) : ∀ c ∈ (Txt.slice ("abcdefg" : Str) none (some v)).cps.toList, 97 ≤ c ∧ c ≤ 122 := by
  have z : v = 0 ∨ v = 1 ∨ v = 2 ∨ v = 3 ∨ v = 4 ∨ v = 5 ∨ v = 6 ∨ v = 7 := by omega
  rcases z with z | z | z | z | z | z | z | z <;> subst z <;> decide +kernel
theorem word_cons {c : Nat} {x : Str} (hc : 97 ≤ c ∧ c ≤ 122) (hl : x.length ≤ 7) (hx : ∀ c ∈ x.cps.toList, 97 ≤ c ∧ c ≤ 122) : WordOk (⟨#[c]⟩ ++ x) where
  len := by rw [strLen_append]; show 1 + x.length ≤ 8; omega
  cps := fun d hd => by
    have e : ((⟨#[c]⟩ : Str) ++ x).cps.toList = c :: x.cps.toList := by
      show (#[c] ++ x.cps).toList = _
      simp
    rw [e] at hd
    rcases List.mem_cons.mp hd with q | q
    · rw [q]; exact hc
    · exact hx d q
theorem ok_speech {f fP fT : Addr} {fd fdP fdT : FuncData} (F : Fun K "_law_speech" "_law_speech" sSpeech f fd)
    (GP : FnOk P w K mg base CX0 1 fP fdP ["_law_cell_here"] spPurse) (bP : Binds K fdP ["_law_cell_here"] []) (kP : PySem.W.keepIn K (.ref fP) = true) (mP : mg "_law_purse" = some (.ref fP))
    (GT : FnOk P w K mg base CX0 1 fT fdT ["_law_purse_here", "_law_many"] spTake) (bT : Binds K fdT ["_law_purse_here", "_law_many"] []) (kT : PySem.W.keepIn K (.ref fT) = true) (mT : mg "_law_take" = some (.ref fT))
    (mr : mg "range" = none) (mx : mg "max" = none) (mn : mg "min" = none) (mt : mg "tuple" = none) : FnOk P w K mg base CX0 2 f fd ["_law_cell_here", "_law_least"] (spSpeech K) := by
  refine F.ok scSp (fun vs H Q E h => ?_) (fun cdv A outer s H vs Q E hr h => ?_)
  · obtain ⟨n, l, rfl, _⟩ := h
    rfl
  obtain ⟨n, l, rfl, l1, l3, q⟩ := h
  refine ⟨_, pss_cons (ps_set (i := 2) scSp.nd rfl (Or.inl rfl) (pe_call GP hr rfl mP kP bP .nil pass0 (pa_cons (pv 0) pa_nil)))
    (pss_cons (ps_set (i := 3) scSp.nd rfl (Or.inl rfl) (pe_call GT hr rfl mT kT bT .nil pass0 (pa_cons (pv 2) (pa_cons pe_int pa_nil))))
    (pss_cons (ps_set (i := 4) scSp.nd rfl (Or.inl rfl) pe_str)
    (pss_cons (ps_set (i := 5) scSp.nd rfl (Or.inl rfl) (pe_ix ix_list (pe_lst (pa_cons pe_int (pa_cons pe_int (pa_cons pe_int (pa_cons pe_int (pa_cons pe_int (pa_cons pe_int (pa_cons pe_int (pa_cons pe_int pa_nil)))))))))
      (pe_call GT hr rfl mT kT bT .nil pass0 (pa_cons (pv 2) (pa_cons pe_int pa_nil))) (fun _ _ => rfl)))
    (pss_cons (ps_set (i := 6) scSp.nd rfl (Or.inl rfl) (pe_callB (call_max2 rfl) rfl mx (by kernel_rfl) (pa_cons (pv 1) (pa_cons (pe_op op_add pe_int (pe_call GT hr rfl mT kT bT .nil pass0 (pa_cons (pv 2) (pa_cons pe_int pa_nil)))) pa_nil))))
    (pss_cons (ps_set (i := 7) scSp.nd rfl (Or.inl rfl) (pe_slice sl_str pe_str po_none (po_some (pe_call GT hr rfl mT kT bT .nil pass0 (pa_cons (pv 2) (pa_cons pe_int pa_nil))))))
    (pss_cons (ps_set (i := 8) scSp.nd rfl (Or.inl rfl) (pe_lst pa_nil))
    (pss_cons (ps_for PassesOwn.never rfl (pi_range1 rfl mr (pa_cons (pv 6) pa_nil)) (pg_name (i := 9) scSp.nd rfl (Or.inl rfl))
      (pss_cons (ps_set (i := 10) scSp.nd rfl (Or.inl rfl) (pe_callB (call_min2 rfl) rfl mn (by kernel_rfl) (pa_cons (pe_ix ix_list (pe_lst (pa_cons pe_int (pa_cons pe_int (pa_cons pe_int (pa_cons pe_int (pa_cons pe_int (pa_cons pe_int pa_nil)))))))
        (pe_call GT hr rfl mT kT bT .nil pass0 (pa_cons (pv 2) (pa_cons pe_int pa_nil))) (fun _ _ => rfl)) (pa_cons (pv 5) pa_nil))))
      (pss_cons (ps_set (i := 5) scSp.nd rfl (Or.inl rfl) (pe_op op_fdiv (pv 5) (pv 10)))
      (pss_one (ps_expr (pe_bm PySem.F.plainAttrs_list PySem.F.slot_list_append PySem.F.type_list_append mt_append (pv 8)
        (pa_cons (pe_tup (pa_cons (pe_op op_add_str (pe_ix ix_str (pv 4) (pe_op op_mod (pe_op op_add (pv 3) (pe_op op_mul pe_int (pv 9))) pe_int) (fun _ _ => rfl)) (pv 7)) (pa_cons (pv 10) pa_nil))) pa_nil)))))))
    (pss_one (ps_ret (pe_callTy call_tuple_of rfl mt (by kernel_rfl) (pa_cons (pv 8) pa_nil))))))))))), ?_⟩
  -- the purse
  refine ⟨_, rfl, n, rfl, fun r a0 b0 hr0 a0' b0' => ?_⟩
  -- first
  refine ⟨_, rfl, r, a0, b0, 26, rfl, upd_same, a0', b0', by decide, by decide, fun fi a1 b1 G1 fi0 fi1 a1' b1' g1 k1 => ?_⟩
  have s1 : Same H G1 := Same.keep (same_new hr0 _) hr0 k1
  -- left
  refine ⟨(by show 8 ≤ sizeLine; decide), fun p2 hp2 => ?_⟩
  have rp2 : r ≠ p2 := ne_of_none g1 hp2
  refine ⟨_, rfl, r, a1, b1, 8, rfl, (by rw [upd_ne rp2]; exact g1), a1', b1', by decide, by decide, fun v2 a2 b2 G2 v20 v21 a2' b2' g2 k2 => ?_⟩
  obtain ⟨lf, lfm, lfe⟩ := menu (ns := [8, 8, 6, 8, 12, 8, 4, 24]) v20 v21
  have s2 : Same H G2 := Same.keep (Same.trans s1 (same_new hp2 _)) hr0 k2
  refine ⟨p2, _, _, _, rfl, rfl, SqL.of (k2 _ _ rp2.symm upd_same), lfe, ?_⟩
  have lf1 : 1 ≤ lf := by
    simp only [List.mem_cons, List.not_mem_nil, or_false] at lfm
    omega
  -- many
  refine ⟨_, rfl, _, rfl, r, a2, b2, 3, rfl, g2, a2', b2', by decide, by decide, fun v3 a3 b3 G3 v30 v31 a3' b3' g3 k3 => ?_⟩
  have s3 : Same H G3 := Same.keep s2 hr0 k3
  refine ⟨_, _, rfl, rfl, _, _, rfl, ?_⟩
  have hM : ∃ M : Int, (if 1 + v3 > l then 1 + v3 else l) = M ∧ 1 ≤ M ∧ M ≤ 3 := ⟨_, rfl, by split <;> omega, by split <;> omega⟩
  obtain ⟨M, eM, M1, M3⟩ := hM
  rw [eM]
  -- tail
  refine ⟨_, rfl, r, a3, b3, 8, rfl, g3, a3', b3', by decide, by decide, fun v4 a4 b4 G4 v40 v41 a4' b4' g4 k4 => ?_⟩
  have s4 : Same H G4 := Same.keep s3 hr0 k4
  refine ⟨_, rfl, _, rfl, (by decide +kernel), ?_⟩
  obtain ⟨tl, etl, tlc, tl7⟩ : ∃ tl : Str, Txt.slice ("abcdefg" : Str) none (some v4) = tl ∧ (∀ c ∈ tl.cps.toList, 97 ≤ c ∧ c ≤ 122) ∧ tl.length ≤ 7 := ⟨_, rfl, tail_rng v40 v41, Nat.le_trans (PySem.Txt.slice_le ("abcdefg" : Str) none (some v4)) (by decide +kernel)⟩
  rw [etl]
  -- the list
  refine ⟨(by show 0 ≤ sizeLine; decide), fun u hu => ?_⟩
  have ru : r ≠ u := ne_of_none g4 hu
  have hu0 : H u = none := Same.free s4 hu
  refine ⟨_, rfl, M, rfl, by omega, by omega, for_range (n := M.toNat) (fun i σ G => ∃ (lf a b : Int) (ws : List (Str × Nat)) (xs : List V) (v9 v10 : Option V),
    σ = [some (.int n), some (.int l), some (.ref r), some (.int fi), some (.str abc), some (.int lf), some (.int M), some (.str tl), some (.ref u), v9, v10] ∧ Same H G ∧ G r = some (.lst [.int a, .int b]) ∧ 0 ≤ a ∧ 0 ≤ b ∧ 1 ≤ lf ∧
    G u = some (.lst xs) ∧ Holds K G xs (ws.map pairD) ∧ ws.length = i ∧ (∀ w ∈ ws, 1 ≤ w.2 ∧ w.2 ≤ 6) ∧ ∀ w ∈ ws, WordOk w.1) ?_ ?_ ?_⟩
  · exact ⟨lf, a4, b4, [], [], none, none, rfl, Same.put s4 hu0 _, (by rw [upd_ne ru]; exact g4), a4', b4', lf1, upd_same, .nil, rfl, (fun w hw => nomatch hw), fun w hw => nomatch hw⟩
  · rintro i σ G hi ⟨lf, a, b, ws, xs, v9, v10, rfl, sG, gr, ha, hb, hlf, gu, hd, wl, wc, ww⟩
    refine ⟨(by show 6 ≤ sizeLine; decide), fun p hp => ?_⟩
    have rp : r ≠ p := ne_of_none gr hp
    have up : u ≠ p := ne_of_none gu hp
    refine ⟨_, rfl, r, a, b, 6, rfl, (by rw [upd_ne rp]; exact gr), ha, hb, by decide, by decide, fun v a' b' G' v0 v1 ha' hb' g' k' => ?_⟩
    obtain ⟨c, cm, ce⟩ := menu (ns := [2, 3, 4, 1, 6, 5]) v0 v1
    have sG' : Same H G' := Same.keep (Same.trans sG (same_new hp _)) hr0 k'
    refine ⟨p, _, _, _, rfl, rfl, SqL.of (k' _ _ rp.symm upd_same), ce, _, rfl, _, _, rfl, ?_⟩
    have hc : ∃ k : Nat, (if lf < c then lf else c) = (k : Int) ∧ 1 ≤ k ∧ k ≤ 6 ∧ (k : Int) ≤ lf := by
      simp only [List.mem_cons, List.not_mem_nil, or_false] at cm
      refine ⟨(if lf < c then lf else c).toNat, ?_, ?_, ?_, ?_⟩ <;> split <;> omega
    obtain ⟨k, ek, k1', k6', klf⟩ := hc
    rw [ek]
    refine ⟨_, rfl, _, rfl, _, _, rfl, rfl, ⟨by omega, by omega⟩, ?_⟩
    have ur : u ≠ r := ru.symm
    have gu' : G' u = some (.lst xs) := k' _ _ ur (by rw [upd_ne up]; exact gu)
    have r26 := emod_rng (fi + 9 * (0 + (i : Int))) (m := 26) (by decide)
    obtain ⟨ch, ech, chr⟩ := abc_at r26.1 r26.2
    refine ⟨_, rfl, .inl ⟨rfl, _, SqL.of gu'⟩, _, rfl, _, rfl, _, rfl, _, _, rfl, rfl, .inl ⟨by decide, by decide⟩, _, _, rfl, rfl, _, _, rfl, rfl, (by show (0 : Int) < 26; decide), _, _, ch, rfl, rfl, (by decide +kernel), ech, _, rfl, _, _, rfl, rfl, ?_, _, rfl, (by show 2 ≤ sizeLine; decide), fun t ht => ?_⟩
    · exact small (by show 1 + tl.length ≤ 1000; omega)
    have ut : u ≠ t := ne_of_none gu' ht
    have ht0 : H t = none := Same.free sG' ht
    refine ⟨u, xs, .ref t, rfl, rfl, (by rw [upd_ne ut]; exact gu'), ?_, ?_⟩
    · have z := hd.length
      rw [List.length_map] at z
      exact small1000 (by omega)
    have rt : r ≠ t := ne_of_none g' ht
    have tG : Tups G G' := (Tups.of (same_new hp _)).trans (Tups.but (u := r) (by rw [upd_ne rp]; exact gr) k')
    have tN : Tups G (upd (upd G' t (.tup [.str (⟨#[ch]⟩ ++ tl), .int (k : Int)])) u (.lst (xs ++ [.ref t]))) := (tG.trans (Tups.of (same_new ht _))).trans (Tups.put (by rw [upd_ne ut]; exact gu') _)
    refine ⟨lf / (k : Int), a', b', ws ++ [(⟨#[ch]⟩ ++ tl, k)], xs ++ [.ref t], _, _, rfl, Same.put (Same.put sG' ht0 _) hu0 _, (by rw [upd_ne ur.symm, upd_ne rt]; exact g'), ha', hb', ?_, upd_same, ?_, (by rw [List.length_append, wl]; rfl), fun x hx => ?_, fun x hx => ?_⟩
    · exact (Int.le_ediv_iff_mul_le (by omega)).mpr (by omega)
    · rw [List.map_append]
      refine Holds.append (Holds.stay tN (fixL_map (fun _ => rfl) ws) hd) (.one (.tup (SqT.of ?_) (.cons (.flat rfl) (.cons (.flat rfl) .nil))))
      rw [upd_ne ut.symm, upd_same]
    · rcases List.mem_append.mp hx with z | z
      · exact wc x z
      · rw [List.mem_singleton.mp z]
        exact ⟨k1', k6'⟩
    · rcases List.mem_append.mp hx with z | z
      · exact ww x z
      · rw [List.mem_singleton.mp z]
        exact word_cons chr tl7 tlc
  · rintro σ G ⟨lf, a, b, ws, xs, v9, v10, rfl, sG, gr, ha, hb, hlf, gu, hd, wl, wc, ww⟩
    refine ⟨_, rfl, u, xs, rfl, .inl ⟨SqL.of gu, fun t ht => ?_⟩⟩
    exact q t ws _ (Same.put sG (Same.free sG ht) _) (.tup (SqT.of upd_same) (Holds.mono (same_new ht _) hd)) ⟨by omega, by omega, wc, ww⟩ (by omega)
def spCell (K : PySem.W.Frag) : Sp := fun vs H Q _ => ∃ (a : Addr) (k : Int) (ns : List Int), vs = [.ref a, .int k] ∧ SqL K H a (ns.map V.int) ∧ 0 ≤ k ∧ ∀ x : Int, Q (.int x) H
theorem scCe : FnScope ["_law_script", "_law_k"] ["_law_script", "_law_k"] (defScope sCell) := ⟨rfl, rfl, rfl, by decide +kernel, rfl, by decide +kernel, by decide +kernel⟩
theorem ok_cell {f : Addr} {fd : FuncData} (F : Fun K "_law_cell" "_law_cell" sCell f fd) (ml : mg "len" = none) : FnOk P w K mg base CX0 1 f fd ["_law_script", "_law_k"] (spCell K) := by
  refine F.ok scCe (fun vs H Q E h => ?_) (fun cdv A outer s H vs Q E hr h => ?_)
  · obtain ⟨a, k, ns, rfl, _⟩ := h
    rfl
  obtain ⟨a, k, ns, rfl, hS, k0, q⟩ := h
  refine ⟨_, pss_cons (ps_if (pt_cmpR op_lt (pv 1) (pe_callB call_len_seq rfl ml PySem.boot_len (pa_cons (pv 0) pa_nil)) (nomark _)) (pss_one (ps_ret (pe_ix ix_list (pv 0) (pv 1) (fun _ _ => rfl)))) pss_nil)
    (pss_one (ps_ret pe_int)), ?_⟩
  refine ⟨_, rfl, _, rfl, a, _, rfl, .inl hS, _, _, rfl, rfl, _, rfl, ?_⟩
  refine ite2 (fun c => ?_) (fun _ => ?_)
  · have c' : k < (((ns.map V.int).length : Nat) : Int) := of_decide_eq_true c
    rw [List.length_map] at c'
    obtain ⟨x, _, e⟩ := menu (ns := ns) k0 c'
    exact ⟨_, rfl, _, rfl, a, _, _, _, rfl, rfl, hS, e, q x⟩
  · exact q 0
end
end S7


set_option Elab.async false
set_option maxRecDepth 100000
set_option maxHeartbeats 4000000
/-! k72, the refusals are made -/
/-! k11, the refusals are made -/
/-! k02, third part: the refusals are made -/
namespace L2
open PySem PySem.Spec PyProof.Rows Fly
section
variable {P : Program} {w : World} {K : PySem.W.Frag} {mg : Str → Option Value} {base : Heap}
/-- a def that may refuse -/
theorem Fun.okX {x qual : Str} {st : Stmt} {f : Addr} {fd : FuncData} {N ps : List Str} {k : Nat} {sp : Sp} (F : Fun K x qual st f fd) (S : FnScope N ps (defScope st)) (len : ∀ vs H Q E, sp vs H Q E → vs.length = ps.length)
    (hbody : ∀ (cdv : Value) (A : Around) (outer : List Env) (s : Shared) (H : Hp) (vs : List V) (Q : VK) (E : XK), Room k (A.deeper (envOfC qual (defScope st) s.heap.objs.size f cdv)) → sp vs H Q E →
      ∃ t, PSs (cxOf (CXx P w) P w K mg base N qual (defScope st) f cdv A outer s H E) (defBody st) t ∧ t { nx := fun _ H' => Q .non H', rt := Q } (start N vs) H) : FnOk P w K mg base (CXx P w) (k + 1) f fd ps sp := by
  obtain ⟨oc, od, kV, doc, pm, an, cdv, ct, osl, rfl, lk, hcd⟩ := F.ex
  exact fn_of lk hcd S len fun A outer s H vs Q E hr hsp => hbody cdv A outer s H vs Q E hr hsp
/-- what is left of the picture when a new exception is raised -/
theorem del_same3 {H : Hp} {e dx : Addr} {o1 o2 o3 : HO} (he : H e = none) (hd : upd H e o1 dx = none) (ne : dx ≠ e) : Same H (del (upd (upd (upd H e o1) dx o2) e o3) e) ∧ del (upd (upd (upd H e o1) dx o2) e o3) e dx = some o2 ∧ H dx = none := by
  have hd0 : H dx = none := by rw [upd_ne ne] at hd; exact hd
  refine ⟨fun b o z => ?_, ?_, hd0⟩
  · have h1 : b ≠ e := ne_of_none z he
    have h2 : b ≠ dx := ne_of_none z hd0
    rw [del_ne h1, upd_ne h1, upd_ne h2, upd_ne h1]; exact z
  · rw [del_ne ne, upd_ne ne, upd_same]
end
end L2
namespace S7
open PySem L2 Fly
/-- what of SwitchError is asked -/
structure Sw (K : PySem.W.Frag) (mg : Str → Option Value) (SW : Addr) : Prop where
  mg : mg "SwitchError" = some (.ref SW)
  ga : PySem.W.specialIn K (.ref SW) "__getattribute__" = some (some (.builtin "type.__getattribute__"))
  rd : PySem.W.readsIn K SW (.type "type") = true
  fc : PySem.W.findCls K (.ref SW) (.type "type") "__init__" = some (.val (.builtin "ValueError.__init__"))
def spInit (K : PySem.W.Frag) (C : Addr) (f : Str) (ok : V → Prop) : Sp := fun vs H Q _ => ∃ (e : Addr) (y : V), vs = [.ref e, y] ∧ XCls K C ∧ NoAttr K C f ∧ ok y ∧ H e = some (XNew e C none) ∧
  ∀ dx, H dx = none → dx ≠ e → Q .non (upd (upd H dx (.xd [(f, y)])) e (XNew e C (some dx)))
def spInit2 (K : PySem.W.Frag) (C : Addr) : Sp := fun vs H Q _ => ∃ (e : Addr) (y z : V), vs = [.ref e, y, z] ∧ XCls K C ∧ NoAttr K C "number" ∧ NoAttr K C "most" ∧ ReprOk y ∧ ReprOk z ∧ H e = some (XNew e C none) ∧
  ∀ dx, H dx = none → dx ≠ e → Q .non (upd (upd (upd H dx (.xd [("number", y)])) e (XNew e C (some dx))) dx (.xd [("number", y), ("most", z)]))
section
variable {P : Program} {w : World} {K : PySem.W.Frag} {mg : Str → Option Value} {base : Heap} {SW C : Addr}
theorem scNF : FnScope ["self", "field"] ["self", "field"] (defScope sNF) := ⟨rfl, rfl, rfl, by decide +kernel, rfl, by decide +kernel, by decide +kernel⟩
theorem ok_nf {f : Addr} {fd : FuncData} (F : Fun K "__init__" "NoField.__init__" sNF f fd) (W : Sw K mg SW) : FnOk P w K mg base CX0 1 f fd ["self", "field"] (spInit K C "field" ReprOk) := by
  refine F.ok scNF (fun vs H Q E h => ?_) (fun cdv A outer s H vs Q E hr h => ?_)
  · obtain ⟨e, y, rfl, _⟩ := h
    rfl
  obtain ⟨e, y, rfl, c, n, ok, he, q⟩ := h
  refine ⟨_, pss_cons (ps_expr (pe_binit rfl W.mg W.ga W.rd W.fc (pa_cons (pv 0) (pa_cons (pe_join (pj_str (by decide +kernel) (pj_repr (pv 1) pj_nil)) (by decide)) pa_nil)))) (pss_one (ps_xset (pv 0) (pv 1) rfl)), ?_⟩
  refine ⟨_, rfl, _, rfl, ok, fun z => ⟨e, C, none, .str z, rfl, he, c, ?_⟩⟩
  exact ⟨_, rfl, _, rfl, e, C, rfl, c, n, .inl ⟨he, q⟩⟩
theorem scNV : FnScope ["self", "value"] ["self", "value"] (defScope sNV) := ⟨rfl, rfl, rfl, by decide +kernel, rfl, by decide +kernel, by decide +kernel⟩
theorem ok_nv {f : Addr} {fd : FuncData} (F : Fun K "__init__" "NoValue.__init__" sNV f fd) (W : Sw K mg SW) : FnOk P w K mg base CX0 1 f fd ["self", "value"] (spInit K C "value" ReprOk) := by
  refine F.ok scNV (fun vs H Q E h => ?_) (fun cdv A outer s H vs Q E hr h => ?_)
  · obtain ⟨e, y, rfl, _⟩ := h
    rfl
  obtain ⟨e, y, rfl, c, n, ok, he, q⟩ := h
  refine ⟨_, pss_cons (ps_expr (pe_binit rfl W.mg W.ga W.rd W.fc (pa_cons (pv 0) (pa_cons (pe_join (pj_str (by decide +kernel) (pj_repr (pv 1) (pj_str (by decide +kernel) pj_nil))) (by decide)) pa_nil)))) (pss_one (ps_xset (pv 0) (pv 1) rfl)), ?_⟩
  refine ⟨_, rfl, _, rfl, ok, fun z => ⟨e, C, none, .str z, rfl, he, c, ?_⟩⟩
  exact ⟨_, rfl, _, rfl, e, C, rfl, c, n, .inl ⟨he, q⟩⟩
theorem scNT : FnScope ["self", "saying"] ["self", "saying"] (defScope sNT) := ⟨rfl, rfl, rfl, by decide +kernel, rfl, by decide +kernel, by decide +kernel⟩
theorem ok_nt {f : Addr} {fd : FuncData} (F : Fun K "__init__" "NoTest.__init__" sNT f fd) (W : Sw K mg SW) : FnOk P w K mg base CX0 1 f fd ["self", "saying"] (spInit K C "saying" fun _ => True) := by
  refine F.ok scNT (fun vs H Q E h => ?_) (fun cdv A outer s H vs Q E hr h => ?_)
  · obtain ⟨e, y, rfl, _⟩ := h
    rfl
  obtain ⟨e, y, rfl, c, n, ok, he, q⟩ := h
  refine ⟨_, pss_cons (ps_expr (pe_binit rfl W.mg W.ga W.rd W.fc (pa_cons (pv 0) (pa_cons pe_str pa_nil)))) (pss_one (ps_xset (pv 0) (pv 1) rfl)), ?_⟩
  refine ⟨_, rfl, e, C, none, _, rfl, he, c, ?_⟩
  exact ⟨_, rfl, _, rfl, e, C, rfl, c, n, .inl ⟨he, q⟩⟩
theorem scNP : FnScope ["self", "saying"] ["self", "saying"] (defScope sNP) := ⟨rfl, rfl, rfl, by decide +kernel, rfl, by decide +kernel, by decide +kernel⟩
theorem ok_np {f : Addr} {fd : FuncData} (F : Fun K "__init__" "NoPlain.__init__" sNP f fd) (W : Sw K mg SW) : FnOk P w K mg base CX0 1 f fd ["self", "saying"] (spInit K C "saying" fun _ => True) := by
  refine F.ok scNP (fun vs H Q E h => ?_) (fun cdv A outer s H vs Q E hr h => ?_)
  · obtain ⟨e, y, rfl, _⟩ := h
    rfl
  obtain ⟨e, y, rfl, c, n, ok, he, q⟩ := h
  refine ⟨_, pss_cons (ps_expr (pe_binit rfl W.mg W.ga W.rd W.fc (pa_cons (pv 0) (pa_cons pe_str pa_nil)))) (pss_one (ps_xset (pv 0) (pv 1) rfl)), ?_⟩
  refine ⟨_, rfl, e, C, none, _, rfl, he, c, ?_⟩
  exact ⟨_, rfl, _, rfl, e, C, rfl, c, n, .inl ⟨he, q⟩⟩

/-! ### must_value -/
def spMust (cV : Addr) : Sp := fun vs H Q E => ∃ (c v : Int), vs = [.int c, .int v] ∧ v.natAbs.log2 < 1000 ∧ (0 ≤ v ∧ v < c → Q .non H) ∧ (¬ (0 ≤ v ∧ v < c) → ∀ dx H', Same H H' → H' dx = some (.xd [("value", .int v)]) → E (.ref cV) (some dx) H')
theorem scMu : FnScope ["count", "value"] ["count", "value"] (defScope sMust) := ⟨rfl, rfl, rfl, by decide +kernel, rfl, by decide +kernel, by decide +kernel⟩
theorem ok_must {f fI cV : Addr} {fd fdI : FuncData} (F : Fun K "must_value" "must_value" sMust f fd) (c : XCls K cV) (n : NoAttr K cV "value") (hi : PySem.W.findIn K (.ref cV) "__init__" = some (some (.ref fI))) (lf : ∃ oI, K.lookup fI = some oI ∧ oI.cls = .type "function")
    (GI : FnOk P w K mg base CX0 1 fI fdI ["self", "value"] (spInit K cV "value" ReprOk)) (bI : Binds K fdI ["self", "value"] []) (mV : mg "NoValue" = some (.ref cV)) : FnOk P w K mg base (CXx P w) 3 f fd ["count", "value"] (spMust cV) := by
  refine F.okX scMu (fun vs H Q E h => ?_) (fun cdv A outer s H vs Q E hr h => ?_)
  · obtain ⟨a, v, rfl, _⟩ := h
    rfl
  obtain ⟨a, v, rfl, lv, q1, q2⟩ := h
  refine ⟨_, pss_one (ps_if (PW.pt (pw_or (pt_cmpR op_lt (pv 1) pe_int (nomark _)) (pw_or1 (pt_cmpR op_ge (pv 1) (pv 0) (nomark _)))))
    (pss_one (ps_raise c (pe_makeX c hi lf GI hr rfl mV bI (pa_cons (pv 1) pa_nil)))) pss_nil), ?_⟩
  have bad : ¬ (0 ≤ v ∧ v < a) → ∃ x, [some (V.int a), some (V.int v)][1]? = some (some x) ∧ ([x].length ≤ 100 ∧ ∀ e, H e = none → spInit K cV "value" ReprOk (.ref e :: [x]) (upd H e (XNew e cV none))
      (fun u H2 => u = .non ∧ ∃ e' dx, V.ref e = .ref e' ∧ H2 e' = some (XNew e' cV dx) ∧ H e' = none ∧ E (.ref cV) dx (del H2 e')) E0) := fun nb => by
    refine ⟨_, rfl, (by show 1 ≤ 100; decide), fun e he => ⟨e, .int v, rfl, c, n, lv, upd_same, fun dx hd ne => ⟨rfl, e, some dx, rfl, upd_same, he, ?_⟩⟩⟩
    obtain ⟨z1, z2, _⟩ := del_same3 (o2 := .xd [("value", .int v)]) (o3 := XNew e cV (some dx)) he hd ne
    exact q2 nb dx _ z1 z2
  refine ⟨_, rfl, _, _, rfl, rfl, _, rfl, ?_⟩
  refine ite2 (fun h1 => ?_) (fun h1 => ?_)
  · exact iteT (bad fun z => by have := of_decide_eq_true h1; omega)
  · refine ⟨_, rfl, _, rfl, _, _, rfl, rfl, _, rfl, ?_⟩
    refine ite2 (fun h2 => ?_) (fun h2 => ?_)
    · exact bad fun z => by have := of_decide_eq_true h2; omega
    · have n1 : ¬ v < 0 := fun z => h1 (decide_eq_true z)
      have n2 : ¬ a ≤ v := fun z => h2 (decide_eq_true z)
      exact q1 ⟨by omega, by omega⟩
end
end S7


set_option Elab.async false
set_option maxRecDepth 100000
set_option maxHeartbeats 4000000
/-! k72, place_of -/
/-! k11, place_of -/
/-! k02, fourth part: place_of, put_in -/
namespace S7
open PySem L2 Fly PyProof.Rows
/-- where the field stands, and its count -/
def look : List (Str × Nat) → Str → Option (Nat × Nat)
  | [], _ => none
  | w :: r, x => if w.1 = x then some (0, w.2) else (look r x).map fun p => (p.1 + 1, p.2)
theorem look_at {ws : List (Str × Nat)} {x : Str} {i : Nat} {w : Str × Nat} (hw : ws[i]? = some w) (h : look ws x = (look (ws.drop i) x).map fun p => (p.1 + i, p.2)) :
    (w.1 = x → look ws x = some (i, w.2)) ∧ (w.1 ≠ x → look ws x = (look (ws.drop (i + 1)) x).map fun p => (p.1 + (i + 1), p.2)) := by
  have hi : i < ws.length := (List.getElem?_eq_some_iff.mp hw).1
  have e : ws.drop i = w :: ws.drop (i + 1) := by
    rw [List.drop_eq_getElem_cons hi]
    have z := (List.getElem?_eq_some_iff.mp hw).2
    rw [z]
  rw [e] at h
  refine ⟨fun q => ?_, fun q => ?_⟩
  · rw [h]
    show ((if w.1 = x then some (0, w.2) else _) : Option (Nat × Nat)).map _ = _
    rw [if_pos q]
    show some (0 + i, w.2) = _
    rw [Nat.zero_add]
  · rw [h]
    show ((if w.1 = x then some (0, w.2) else (look (ws.drop (i + 1)) x).map fun p => (p.1 + 1, p.2)) : Option (Nat × Nat)).map _ = _
    rw [if_neg q, Option.map_map]
    congr 1
    funext p
    show (p.1 + 1 + i, p.2) = (p.1 + (i + 1), p.2)
    rw [Nat.add_assoc, Nat.add_comm 1 i]

/-- what comes of it -/
structure Outs (ws : List (Str × Nat)) (x : Str) (v : Int) (cF cV : Addr) (H : Hp) (E : XK) (good : Nat → Prop) : Prop where
  no : look ws x = none → ∀ dx H', Same H H' → H' dx = some (.xd [("field", .str x)]) → E (.ref cF) (some dx) H'
  bad : ∀ i c, look ws x = some (i, c) → ¬ (0 ≤ v ∧ v < (c : Int)) → ∀ dx H', Same H H' → H' dx = some (.xd [("value", .int v)]) → E (.ref cV) (some dx) H'
  ok : ∀ i c, look ws x = some (i, c) → 0 ≤ v ∧ v < (c : Int) → good i
def spPlace (K : PySem.W.Frag) (cF cV : Addr) : Sp := fun vs H Q E => ∃ (sp : Addr) (ws : List (Str × Nat)) (x : Str) (v : Int), vs = [.ref sp, .str x, .int v] ∧ Hold K H (.ref sp) (speechD ws) ∧ v.natAbs.log2 < 1000 ∧ (reprText x).length ≤ 2000 ∧
  Outs ws x v cF cV H E fun i => ∀ H', Same H H' → Q (.int (i : Int)) H'
section
variable {P : Program} {w : World} {K : PySem.W.Frag} {mg : Str → Option Value} {base : Heap} {cF cV : Addr}
theorem scPl : FnScope ["speech", "field", "value", "place", "pair"] ["speech", "field", "value"] (defScope sPlace) := ⟨rfl, rfl, rfl, by decide +kernel, rfl, by decide +kernel, by decide +kernel⟩
theorem ok_place {f fM fI : Addr} {fd fdM fdI : FuncData} (F : Fun K "place_of" "place_of" sPlace f fd) (c : XCls K cF) (n : NoAttr K cF "field") (hi : PySem.W.findIn K (.ref cF) "__init__" = some (some (.ref fI))) (lf : ∃ oI, K.lookup fI = some oI ∧ oI.cls = .type "function")
    (GI : FnOk P w K mg base CX0 1 fI fdI ["self", "field"] (spInit K cF "field" ReprOk)) (bI : Binds K fdI ["self", "field"] []) (mF : mg "NoField" = some (.ref cF))
    (GM : FnOk P w K mg base (CXx P w) 3 fM fdM ["count", "value"] (spMust cV)) (bM : Binds K fdM ["count", "value"] []) (kM : PySem.W.keepIn K (.ref fM) = true) (mM : mg "must_value" = some (.ref fM)) (me : mg "enumerate" = none) :
    FnOk P w K mg base (CXx P w) 4 f fd ["speech", "field", "value"] (spPlace K cF cV) := by
  refine F.okX scPl (fun vs H Q E h => ?_) (fun cdv A outer s H vs Q E hr h => ?_)
  · obtain ⟨sp, ws, x, v, rfl, _⟩ := h
    rfl
  obtain ⟨sp, ws, x, v, rfl, hS, lv, lx, o⟩ := h
  refine ⟨_, pss_cons (ps_for PassesOwn.leaving rfl (pi_enum rfl me (pa_cons (pv 0) pa_nil)) (pg_tup rfl (pgs_cons (pg_name (i := 3) scPl.nd rfl (Or.inl rfl)) (pgs_cons (pg_name (i := 4) scPl.nd rfl (Or.inl rfl)) pgs_nil)))
      (pss_one (ps_if (pt_cmpR op_eq (pe_ix ix_tup (pv 4) pe_int (fun _ _ => rfl)) (pv 1) (nomark _))
        (pss_cons (ps_expr (pe_call GM hr rfl mM kM bM .nil passX (pa_cons (pe_ix ix_tup (pv 4) pe_int (fun _ _ => rfl)) (pa_cons (pv 2) pa_nil)))) (pss_one (ps_ret (pv 3)))) pss_nil)))
    (pss_one (ps_raise c (pe_makeX c hi lf GI (hr.mono (by decide)) rfl mF bI (pa_cons (pv 1) pa_nil)))), ?_⟩
  obtain ⟨a, ys, ea, ha, hys⟩ := Hold.tupI hS
  cases ea
  have ll : ys.length = ws.length := by rw [hys.length, List.length_map]
  refine ⟨_, rfl, sp, ys, rfl, ha, for_enum (xs := ys) (fun i σ G => ∃ v3 v4 : Option V, σ = [some (.ref sp), some (.str x), some (.int v), v3, v4] ∧ Same H G ∧ look ws x = (look (ws.drop i) x).map fun p => (p.1 + i, p.2))
    ⟨_, _, rfl, fun _ _ z => z, by simp⟩ (fun i σ G _ ⟨_, _, _, sG, _⟩ => ha.same sG) ?_ ?_⟩
  · rintro i y p σ G hy ⟨v3, v4, rfl, sG, lk⟩ hp
    obtain ⟨w', ew, hw⟩ := hys.getm hy
    obtain ⟨b2, ys2, rfl, hb2, hys2⟩ := Hold.tupI hw
    cases hys2 with
    | cons h1 r1 =>
      cases r1 with
      | cons h2 r2 =>
        cases r2
        cases h1.flatI
        cases h2.flatI
        have sP : Same H (upd G p (.tup [.int (i : Int), .ref b2])) := Same.trans sG (same_new hp _)
        have hb3 : SqT K (upd G p (.tup [.int (i : Int), .ref b2])) b2 [.str w'.1, .int (w'.2 : Int)] := hb2.same sP
        obtain ⟨l1, l2⟩ := look_at ew lk
        refine ⟨p, _, rfl, SqT.of upd_same, rfl, _, _, rfl, _, _, rfl, rfl, ?_⟩
        refine ⟨_, rfl, b2, _, _, _, rfl, rfl, hb3, rfl, _, rfl, rfl, _, rfl, ?_⟩
        refine ite2 (fun e => ?_) (fun e => ?_)
        · have e' : w'.1 = x := by have z := of_decide_eq_true e; cases z; rfl
          have lo := l1 e'
          refine ⟨_, rfl, b2, _, _, _, rfl, rfl, hb3, rfl, _, rfl, (w'.2 : Int), v, rfl, lv, fun g => ?_, fun g dx H' s' hx => ?_⟩
          · exact ⟨_, rfl, o.ok i w'.2 lo g _ sP⟩
          · exact o.bad i w'.2 lo g dx H' (Same.trans sP s') hx
        · have e' : w'.1 ≠ x := fun z => by rw [z] at e; simp at e
          exact ⟨_, _, rfl, sP, l2 e'⟩
  · rintro σ G ⟨v3, v4, rfl, sG, lk⟩
    rw [ll, List.drop_length] at lk
    refine ⟨_, rfl, (by show 1 ≤ 100; decide), fun e he => ⟨e, .str x, rfl, c, n, lx, upd_same, fun dx hd ne => ⟨rfl, e, some dx, rfl, upd_same, Same.free sG he, ?_⟩⟩⟩
    obtain ⟨z1, z2, _⟩ := del_same3 (o2 := .xd [("field", .str x)]) (o3 := XNew e cF (some dx)) he hd ne
    exact o.no lk dx _ (Same.trans sG z1) z2


end
end S7


set_option Elab.async false
set_option maxRecDepth 100000
set_option maxHeartbeats 4000000
/-! k72, small words -/
/-! k11, small words -/
/-! k02, tenth part: the law -/
namespace L2
open PySem PySem.Spec PyProof.Rows
end L2
namespace S7
open PySem L2 Fly
theorem repr_small {x : Str} (hl : x.length ≤ 100) (hc : ∀ c ∈ x.cps.toList, c < 1000) : (reprText x).length ≤ 2000 := by
  have z := StrLaws.reprText_len x fun c h => Nat.lt_trans (hc c h) (by decide)
  omega
theorem cps_app (x y : Str) : (x ++ y).cps.toList = x.cps.toList ++ y.cps.toList := by
  show (x.cps ++ y.cps).toList = _
  simp
theorem word_x {x : Str} (w : WordOk x) : (reprText (x ++ "x")).length ≤ 2000 := by
  refine repr_small ?_ fun c hc => ?_
  · rw [strLen_append]
    have z : ("x" : Str).length = 1 := by decide +kernel
    have := w.len
    omega
  · rw [cps_app] at hc
    rcases List.mem_append.mp hc with q | q
    · have := (w.cps c q).2; omega
    · have : ∀ d ∈ ("x" : Str).cps.toList, d < 1000 := by decide +kernel
      exact this c q
theorem word_repr {x : Str} (w : WordOk x) : (reprText x).length ≤ 2000 := repr_small (by have := w.len; omega) fun c hc => by have := (w.cps c hc).2; omega
theorem menuS {ns : List Str} {v : Int} (h0 : 0 ≤ v) (h1 : v < (ns.length : Int)) : ∃ x ∈ ns, atI (ns.map V.str) v = some (.str x) := by
  have hk : v.toNat < ns.length := by omega
  have ek : v = ((v.toNat : Nat) : Int) := by omega
  have q : atI (ns.map V.str) ((v.toNat : Nat) : Int) = some (.str ns[v.toNat]) := atI_nat (by rw [List.getElem?_map, List.getElem?_eq_getElem hk] <;> rfl)
  rw [← ek] at q
  exact ⟨_, List.getElem_mem hk, q⟩
theorem log_small {i : Int} (h : -1000000000000000000000000000000000000000000000000000000000000 ≤ i ∧ i ≤ 1000000000000000000000000000000000000000000000000000000000000) : i.natAbs.log2 < 1000 := by
  by_cases z : i.natAbs = 0
  · rw [z]; decide
  · have h1 : i.natAbs < 2 ^ 500 := Nat.lt_of_le_of_lt (show i.natAbs ≤ 1000000000000000000000000000000000000000000000000000000000000 by omega) (by decide)
    exact Nat.lt_trans ((Nat.log2_lt z).mpr h1) (by decide)
theorem p59 : (10 : Int) ^ ((59 : Int).toNat) = 100000000000000000000000000000000000000000000000000000000000 := by decide +kernel
theorem p50 : (10 : Int) ^ ((50 : Int).toNat) = 100000000000000000000000000000000000000000000000000 := by decide +kernel
end S7


set_option Elab.async false
set_option maxRecDepth 100000
set_option maxHeartbeats 4000000
/-! k72, parts_of -/
/-! k11, parts_of -/
/-! k12, third part: the program's four defs -/
namespace S7
open PySem L2
def spHeld (K : PySem.W.Frag) : Sp := fun vs H Q _ => ∃ (x : V) (s : Say), vs = [x] ∧ Hold K H x s.da ∧ ∀ (a : Addr) (xs : List V) (H' : Hp), Same H H' → SqT K H' a xs → Holds K H' xs (s.kids.map Say.da) → Q (.ref a) H'
def spParts (K : PySem.W.Frag) : Sp := fun vs H Q _ => ∃ (x : V) (s : Say), vs = [x] ∧ Hold K H x s.da ∧ s.size ≤ 500 ∧ ∀ (r : Addr) (xs : List V) (H' : Hp), Same H H' → H' r = some (.lst xs) → Holds K H' xs (s.parts.map Say.da) → Q (.ref r) H'
def spIsT (K : PySem.W.Frag) : Sp := fun vs H Q _ => ∃ (x : V) (s : Say), vs = [x] ∧ Hold K H x s.da ∧ s.size ≤ 500 ∧ ∀ H' : Hp, Same H H' → Q (.bl s.isT) H'
def spNts (K : PySem.W.Frag) : Sp := fun vs H Q _ => ∃ (x : V) (s : Say), vs = [x] ∧ Hold K H x s.da ∧ s.size ≤ 500 ∧ ∀ H' : Hp, Same H H' → Q (.int (s.nts : Int)) H'
theorem sum_ge : ∀ l : List Say, l.length ≤ (l.map Say.size).sum
  | [] => Nat.le_refl _
  | s :: r => by
    have z := sum_ge r
    have y := size_pos s
    rw [List.length_cons, List.map_cons, List.sum_cons]
    omega
theorem at0' {α : Type} (x : α) (xs : List α) : atI (x :: xs) (0 : Int) = some x := atI_nat (j := 0) rfl
theorem cut1 (x : V) (xs : List V) : cutV (x :: xs) (some 1) none = xs := by
  unfold cutV
  have e : HT.sIx (x :: xs).length 0 (some 1) = 1 := by
    rw [show (some (1 : Int)) = some (((1 : Nat) : Int)) from rfl, HT.sIx_nat, List.length_cons]
    omega
  rw [e, HT.sIx_none]
  show List.take ((x :: xs).length - 1) xs = xs
  rw [List.length_cons, Nat.add_sub_cancel]
  exact List.take_length
section
variable {P : Program} {w : World} {K : PySem.W.Frag} {mg : Str → Option Value} {base : Heap}
theorem scHe : FnScope ["saying"] ["saying"] (defScope sHeld) := ⟨rfl, rfl, rfl, by decide +kernel, rfl, by decide +kernel, by decide +kernel⟩
theorem ok_held {f aH : Addr} {fd : FuncData} (F : Fun K "held_in" "held_in" sHeld f fd) (mH : mg "HOLDING_SORTS" = some (.ref aH)) (tH : ∀ H : Hp, SqT K H aH HS) : FnOk P w K mg base CX0 1 f fd ["saying"] (spHeld K) := by
  refine F.ok scHe (fun vs H Q E h => ?_) (fun cdv A outer s H vs Q E hr h => ?_)
  · obtain ⟨x, s, rfl, _⟩ := h
    rfl
  obtain ⟨x, sy, rfl, hx, q⟩ := h
  refine ⟨_, pss_cons (ps_if (pt_cmpR op_in_seq (pe_ix ix_tup (pv 0) pe_int (fun _ _ => rfl)) (pe_glob (v := .ref aH) rfl mH rfl) (by with_unfolding_all rfl)) (pss_one (ps_ret (pe_slice sl_tup (pv 0) (po_some pe_int) po_none))) pss_nil)
    (pss_one (ps_ret (pe_tup pa_nil))), ?_⟩
  obtain ⟨a, xs, rfl, ha, hk⟩ := da_open hx
  refine ⟨_, rfl, a, _, _, _, rfl, rfl, ha, at0' _ _, aH, HS, rfl, .inr (tH _), rfl, by decide +kernel, _, rfl, ?_⟩
  show if inV (.str sy.sort) HS = true then _ else _
  rw [in_HS]
  refine ite2 (fun c => ?_) (fun c => ?_)
  · refine ⟨_, rfl, _, rfl, a, _, rfl, ha, fun z => ?_, fun p hp => ?_⟩
    · have e : HT.sIx (V.str sy.sort :: xs).length 0 (some 1) = 1 := by
        rw [show (some (1 : Int)) = some (((1 : Nat) : Int)) from rfl, HT.sIx_nat, List.length_cons]
        omega
      rw [e] at z
      exact absurd z.1 (by decide)
    · rw [cut1]
      exact q p xs _ (same_new hp _) (SqT.of upd_same) (Holds.mono (same_new hp _) (hk c))
  · refine ⟨(by show 0 ≤ sizeLine; decide), fun p hp => ?_⟩
    refine q p [] _ (same_new hp _) (SqT.of upd_same) ?_
    rw [kids_no (by simpa using c)]
    exact .nil

theorem scPa : FnScope ["saying", "parts", "waiting", "part"] ["saying"] (defScope sParts) := ⟨rfl, rfl, rfl, by decide +kernel, rfl, by decide +kernel, by decide +kernel⟩
theorem holds_snoc {K : PySem.W.Frag} {H : Hp} : ∀ {xs : List V} {ds : List Da} {d : Da}, Holds K H xs (ds ++ [d]) → ∃ ys y, xs = ys ++ [y] ∧ Holds K H ys ds ∧ Hold K H y d
  | [], [], _, h => by cases h
  | [], _ :: _, _, h => by cases h
  | x :: xs, [], d, h => by
    cases h with
    | cons a r =>
      cases r
      exact ⟨[], x, rfl, .nil, a⟩
  | x :: xs, e :: ds, d, h => by
    cases h with
    | cons a r =>
      obtain ⟨ys, y, rfl, h1, h2⟩ := holds_snoc r
      exact ⟨x :: ys, y, rfl, .cons a h1, h2⟩
theorem Holds.rev {K : PySem.W.Frag} {H : Hp} : ∀ {xs : List V} {ds : List Da}, Holds K H xs ds → Holds K H xs.reverse ds.reverse
  | [], _, h => by cases h; exact .nil
  | _ :: _, _, h => by
    cases h with
    | cons a r =>
      rw [List.reverse_cons, List.reverse_cons]
      exact Holds.append (Holds.rev r) (.one a)
theorem ok_parts {f g : Addr} {fd gd : FuncData} (F : Fun K "parts_of" "parts_of" sParts f fd) (G : FnOk P w K mg base CX0 1 g gd ["saying"] (spHeld K)) (bG : Binds K gd ["saying"] []) (kG : PySem.W.keepIn K (.ref g) = true) (mG : mg "held_in" = some (.ref g)) :
    FnOk P w K mg base CX0 2 f fd ["saying"] (spParts K) := by
  refine F.ok scPa (fun vs H Q E h => ?_) (fun cdv A outer s H vs Q E hr h => ?_)
  · obtain ⟨x, s, rfl, _⟩ := h
    rfl
  obtain ⟨x, sy, rfl, hx, h500, q⟩ := h
  refine ⟨_, pss_cons (ps_set (i := 1) scPa.nd rfl (Or.inl rfl) (pe_lst pa_nil))
    (pss_cons (ps_set (i := 2) scPa.nd rfl (Or.inl rfl) (pe_lst (pa_cons (pv 0) pa_nil)))
    (pss_cons (ps_while PassesOwn.never (pt_truth (pv 2) (fun _ => rfl))
      (pss_cons (ps_set (i := 3) scPa.nd rfl (Or.inl rfl) (pe_bm0 PySem.F.plainAttrs_list PySem.F.slot_list_pop PySem.F.type_list_pop mt_pop (pv 2)))
      (pss_cons (ps_expr (pe_bm PySem.F.plainAttrs_list PySem.F.slot_list_append PySem.F.type_list_append mt_append (pv 1) (pa_cons (pv 3) pa_nil)))
      (pss_one (ps_expr (pe_bm PySem.F.plainAttrs_list PySem.F.slot_list_extend PySem.F.type_list_extend mt_extT (pv 2)
        (pa_cons (pe_revT (pe_call G hr rfl mG kG bG .nil pass0 (pa_cons (pv 3) pa_nil)) (pe_un un_neg pe_int)) pa_nil)))))))
    (pss_one (ps_ret (pv 1))))), ?_⟩
  refine ⟨(by show 0 ≤ sizeLine; decide), fun u hu => ⟨_, rfl, (by show 1 ≤ sizeLine; decide), fun v hv => ?_⟩⟩
  have uv : u ≠ v := ne_of_none upd_same hv
  have hv0 : H v = none := Same.free (same_new hu _) hv
  refine ⟨fun m σ G => ∃ (done wait : List Say) (xs ys : List V) (v3 : Option V), σ = [some x, some (.ref u), some (.ref v), v3] ∧ Same H G ∧ G u = some (.lst xs) ∧ G v = some (.lst ys) ∧ Holds K G xs (done.map Say.da) ∧ Holds K G ys (wait.map Say.da) ∧
    done ++ wait.reverse.flatMap Say.parts = sy.parts ∧ m = (wait.map Say.size).sum ∧ done.length + (wait.map Say.size).sum = sy.size ∧ wait.length ≤ (wait.map Say.size).sum, ⟨_, [], [sy], [], [x], none, rfl, Same.put (same_new hu _) hv0 _, (by rw [upd_ne uv, upd_same]), upd_same, .nil,
      .one (Hold.mono (Same.put (same_new hu _) hv0 _) hx), by simp, rfl, by simp, by simpa using size_pos sy⟩, ?_⟩
  rintro m σ G ⟨done, wait, xs, ys, v3, rfl, sG, gu, gv, hd, hw, ep, em, el, lw⟩
  refine ⟨_, rfl, !ys.isEmpty, .inl ⟨ys, SqL.of gv, rfl⟩, ?_⟩
  have ly : ys.length = wait.length := by rw [hw.length, List.length_map]
  have lx : xs.length = done.length := by rw [hd.length, List.length_map]
  refine ite2 (fun c => ?_) (fun c => ?_)
  · rcases List.eq_nil_or_concat wait with e | ⟨w0, p, e⟩
    · subst e
      have z : ys = [] := List.length_eq_zero_iff.mp ly
      rw [z] at c
      cases c
    · rw [List.concat_eq_append] at e
      subst e
      rw [List.map_append] at hw
      obtain ⟨zs, y, rfl, hz, hy⟩ := holds_snoc hw
      have sm : ((w0 ++ [p]).map Say.size).sum = (w0.map Say.size).sum + p.size := by simp
      rw [sm] at em el lw
      have w1 : w0.length + 1 ≤ (w0.map Say.size).sum + p.size := by simpa using lw
      have ps := size_pos p
      refine ⟨fun σ' G' => ∃ (done wait : List Say) (xs ys : List V) (v3 : Option V), σ' = [some x, some (.ref u), some (.ref v), v3] ∧ Same H G' ∧ G' u = some (.lst xs) ∧ G' v = some (.lst ys) ∧ Holds K G' xs (done.map Say.da) ∧ Holds K G' ys (wait.map Say.da) ∧
        done ++ wait.reverse.flatMap Say.parts = sy.parts ∧ (wait.map Say.size).sum + 1 = m ∧ done.length + (wait.map Say.size).sum = sy.size ∧ wait.length ≤ (wait.map Say.size).sum, fun σ' G' z => ?_, ?_⟩
      · obtain ⟨d', w', xs', ys', v3', z1, z2, z3, z4, z5, z6, z7, z8, z9, z10⟩ := z
        exact ⟨m - 1, by omega, d', w', xs', ys', v3', z1, z2, z3, z4, z5, z6, z7, by omega, z9, z10⟩
      · refine ⟨_, rfl, .inl ⟨rfl, _, SqL.of gv⟩, v, zs ++ [y], y, rfl, rfl, gv, by simp, ?_⟩
        rw [List.dropLast_concat]
        have t1 : Tups G (upd G v (.lst zs)) := Tups.put gv _
        refine ⟨_, rfl, .inl ⟨rfl, _, SqL.of (by rw [upd_ne uv]; exact gu)⟩, _, rfl, u, xs, y, rfl, rfl, (by rw [upd_ne uv]; exact gu), small1000 (by omega), ?_⟩
        have gu1 : upd G v (.lst zs) u = some (.lst xs) := by rw [upd_ne uv]; exact gu
        have t2 : Tups G (upd (upd G v (.lst zs)) u (.lst (xs ++ [y]))) := t1.trans (Tups.put gu1 _)
        have s2 : Same H (upd (upd G v (.lst zs)) u (.lst (xs ++ [y]))) := Same.put (Same.put sG hv0 _) hu _
        have gv2 : upd (upd G v (.lst zs)) u (.lst (xs ++ [y])) v = some (.lst zs) := by rw [upd_ne uv.symm, upd_same]
        refine ⟨_, rfl, .inl ⟨rfl, _, SqL.of gv2⟩, _, rfl, y, p, rfl, Hold.stay t2 (da_fix p) hy, fun a ks G3 s3 ha hk => ⟨_, rfl, rfl, a, ks, rfl, ha, fun t ht => ?_⟩⟩
        have gv3 : G3 v = some (.lst zs) := s3 _ _ gv2
        have vt : v ≠ t := ne_of_none gv3 ht
        have gv4 : upd G3 t (.tup ks.reverse) v = some (.lst zs) := by rw [upd_ne vt]; exact gv3
        have lk : ks.length = p.kids.length := by rw [hk.length, List.length_map]
        have szp := size_eq p
        have kl : p.kids.length ≤ (p.kids.map Say.size).sum := sum_ge _
        have zl : zs.length = w0.length := by rw [hz.length, List.length_map]
        refine ⟨v, t, zs, ks.reverse, rfl, rfl, gv4, SqT.of upd_same, small (by rw [List.length_reverse]; omega), ?_⟩
        have t4 : Tups G (upd (upd G3 t (.tup ks.reverse)) v (.lst (zs ++ ks.reverse))) := (t2.trans (Tups.of s3)).trans ((Tups.of (same_new ht _)).trans (Tups.put gv4 _))
        have t5 : Tups G3 (upd (upd G3 t (.tup ks.reverse)) v (.lst (zs ++ ks.reverse))) := (Tups.of (same_new ht _)).trans (Tups.put gv4 _)
        have ut : u ≠ t := ne_of_none (s3 _ _ upd_same) ht
        have fx : ∀ l : List Say, fixL (l.map Say.da) = true := fun l => fixL_map da_fix l
        refine ⟨done ++ [p], w0 ++ p.kids.reverse, xs ++ [y], zs ++ ks.reverse, _, rfl, Same.put (Same.put (Same.trans s2 s3) (Same.free (Same.trans s2 s3) ht) _) hv0 _, (by rw [upd_ne uv, upd_ne ut]; exact s3 _ _ upd_same), upd_same, ?_, ?_, ?_, ?_, ?_, ?_⟩
        · rw [List.map_append]
          exact Holds.append (Holds.stay t4 (fx _) hd) (.one (Hold.stay t4 (da_fix p) hy))
        · rw [List.map_append, List.map_reverse]
          exact Holds.append (Holds.stay t4 (fx _) hz) (Holds.stay t5 (by rw [← List.map_reverse]; exact fx _) (Holds.rev hk))
        · rw [List.reverse_append, List.reverse_reverse, List.flatMap_append, ← ep, List.reverse_append]
          simp [parts_eq p]
        · rw [List.map_append, List.sum_append, List.map_reverse, List.sum_reverse]
          omega
        · rw [List.map_append, List.sum_append, List.map_reverse, List.sum_reverse, List.length_append, List.length_singleton]
          omega
        · rw [List.map_append, List.sum_append, List.map_reverse, List.sum_reverse, List.length_append, List.length_reverse]
          have w2 : w0.length ≤ (w0.map Say.size).sum := sum_ge w0
          omega
  · have z : ys = [] := by
      cases ys with
      | nil => rfl
      | cons _ _ => exact absurd rfl c
    rw [z] at ly
    have e : wait = [] := List.length_eq_zero_iff.mp ly.symm
    subst e
    refine ⟨_, rfl, q u xs G sG gu ?_⟩
    rw [← ep]
    simpa using hd
end
end S7


set_option Elab.async false
set_option maxRecDepth 100000
set_option maxHeartbeats 4000000
/-! k72, is_test, notes_in -/
/-! k11, is_test -/
/-! k12, fourth part: is_test, notes_in -/
namespace L2
open PySem PySem.Spec PyProof.Rows
/-- a block that closes over nothing -/
theorem cs_plain {X : Cx} {ns : List Str} {sc : Scope} (kind : sc.kind = .function) (nofree : ∀ y ∈ sc.names, y.2 ≠ .free) (nocell : ∀ y ∈ sc.names, y.2 ≠ .cell) (locs : ∀ y ∈ sc.names, y.2 = .local → sc.names.lookup y.1 = some .local) : CScope X ns [] [] sc [] where
  clos := closureFor_none nofree
  kind := kind
  nocell := nocell
  locs := locs
  sub := fun p hp => nomatch hp
  has := fun y h => by
    have e : (relabel sc X.env).names = sc.names := map_eq_self fun p hp => by
      obtain ⟨n, k⟩ := p
      have z : (k == NameKind.free) = false := by simpa using nofree _ hp
      simp [z]
    rw [e] at h
    rcases h with h | h
    · exact absurd rfl (nocell _ (look_mem h))
    · exact absurd rfl (nofree _ (look_mem h))
  len := rfl
  outs := fun j y e => by cases j <;> cases e
end L2
namespace S7
open PySem L2
def scC1 : Scope := { kind := .function, names := [(".0", .local), ("part", .local), ("TEST_SORTS", .globalImplicit)], isGenerator := false, isCoroutine := false, more := [] }
def scC2 : Scope := { kind := .function, names := [(".0", .local), ("part", .local)], isGenerator := false, isCoroutine := false, more := [] }
section
variable {P : Program} {w : World} {K : PySem.W.Frag} {mg : Str → Option Value} {base : Heap}
theorem csC1 {X : Cx} : CScope X ["part"] [] [] scC1 [] := cs_plain rfl (by decide +kernel) (by decide +kernel) (by decide +kernel)
theorem csC2 {X : Cx} : CScope X ["part"] [] [] scC2 [] := cs_plain rfl (by decide +kernel) (by decide +kernel) (by decide +kernel)
theorem scTe : FnScope ["saying"] ["saying"] (defScope sIsT) := ⟨rfl, rfl, rfl, by decide +kernel, rfl, by decide +kernel, by decide +kernel⟩
theorem ok_isT {f g aT : Addr} {fd gd : FuncData} (F : Fun K "is_test" "is_test" sIsT f fd) (G : FnOk P w K mg base CX0 2 g gd ["saying"] (spParts K)) (bG : Binds K gd ["saying"] []) (kG : PySem.W.keepIn K (.ref g) = true) (mG : mg "parts_of" = some (.ref g))
    (ma : mg "all" = none) (mT : mg "TEST_SORTS" = some (.ref aT)) (tT : ∀ H : Hp, SqT K H aT TS) : FnOk P w K mg base CX0 3 f fd ["saying"] (spIsT K) := by
  refine F.ok scTe (fun vs H Q E h => ?_) (fun cdv A outer s H vs Q E hr h => ?_)
  · obtain ⟨x, s, rfl, _⟩ := h
    rfl
  obtain ⟨x, sy, rfl, hx, h500, q⟩ := h
  refine ⟨_, pss_one (ps_ret (pe_callB (call_allB rfl) rfl ma (by kernel_rfl) (pa_cons (pe_comp (ns := ["part"]) (ys := []) (sc := scC1) csC1 rfl (pi_list (pe_call G hr rfl mG kG bG .nil pass0 (pa_cons (pv 0) pa_nil)))
    (fun C s H fp => pg_name (i := 0) (by show (["part"] : List Str).Nodup; decide +kernel) rfl (Or.inl rfl)) (fun C s H fp => pts_nil)
    (fun C s H fp => pe_cmpR (r := rIn K false) op_in_seq (pe_ix (r := rIxT K) ix_tup (pv 0) pe_int (fun _ _ => rfl)) (pe_glob (v := .ref aT) rfl mT rfl) (by with_unfolding_all rfl))) pa_nil))), ?_⟩
  refine ⟨_, rfl, x, sy, rfl, hx, h500, fun r xs G1 s1 gr hd => ⟨r, rfl, ⟨_, SqL.of gr⟩, fun D hD => ?_⟩⟩
  have lx : xs.length = sy.size := by rw [hd.length, List.length_map, parts_len]
  refine comp_list (K := K) (a := r) (xs := xs) (fun i ys G2 => Same G1 G2 ∧ G2 D = some (.lst ys) ∧ ys = ((sy.parts.take i).map Say.inT).map V.bl) ⟨same_new hD _, upd_same, rfl⟩ (fun i ys G2 z => z.2.1) (fun i ys G2 _ z => SqL.of (z.1 _ _ gr)) ?_ ?_
  · rintro i x' ys G2 hx' ⟨s2, d2, rfl⟩
    obtain ⟨p, ep, hp⟩ := hd.getm hx'
    obtain ⟨a, zs, rfl, ha, _⟩ := da_open hp
    have il : i < sy.parts.length := (List.getElem?_eq_some_iff.mp ep).1
    rw [parts_len] at il
    refine ⟨small1000 (by rw [List.length_map, List.length_map, List.length_take]; omega), ⟨[some _], rfl, rfl⟩, ?_⟩
    refine ⟨_, rfl, a, _, _, _, rfl, rfl, ha.same s2, at0' _ _, aT, TS, rfl, .inr (tT _), rfl, by decide +kernel, d2, Same.put s2 hD _, upd_same, ?_⟩
    rw [List.take_add_one, ep]
    show _ ++ [V.bl (inV (.str p.sort) TS)] = _
    rw [in_TS]
    simp
  · rintro ys G2 ⟨s2, d2, rfl⟩
    refine ⟨D, _, rfl, SqL.of d2, ?_⟩
    have e : ((sy.parts.take xs.length).map Say.inT).all id = sy.isT := by
      rw [lx, ← parts_len, List.take_length, ← parts_test, List.all_map]
      rfl
    rw [e]
    exact q G2 (Same.trans s1 s2)
theorem scNo : FnScope ["saying"] ["saying"] (defScope sNts) := ⟨rfl, rfl, rfl, by decide +kernel, rfl, by decide +kernel, by decide +kernel⟩
theorem ok_nts {f g : Addr} {fd gd : FuncData} (F : Fun K "notes_in" "notes_in" sNts f fd) (G : FnOk P w K mg base CX0 2 g gd ["saying"] (spParts K)) (bG : Binds K gd ["saying"] []) (kG : PySem.W.keepIn K (.ref g) = true) (mG : mg "parts_of" = some (.ref g))
    (ml : mg "len" = none) : FnOk P w K mg base CX0 3 f fd ["saying"] (spNts K) := by
  refine F.ok scNo (fun vs H Q E h => ?_) (fun cdv A outer s H vs Q E hr h => ?_)
  · obtain ⟨x, s, rfl, _⟩ := h
    rfl
  obtain ⟨x, sy, rfl, hx, h500, q⟩ := h
  refine ⟨_, pss_one (ps_ret (pe_callB call_len_seq rfl ml PySem.boot_len (pa_cons (pe_comp (ns := ["part"]) (ys := []) (sc := scC2) csC2 rfl (pi_list (pe_call G hr rfl mG kG bG .nil pass0 (pa_cons (pv 0) pa_nil)))
    (fun C s H fp => pg_name (i := 0) (by show (["part"] : List Str).Nodup; decide +kernel) rfl (Or.inl rfl)) (fun C s H fp => pts_one (pt_cmpR op_eq (pe_ix (r := rIxT K) ix_tup (pv 0) pe_int (fun _ _ => rfl)) pe_str (nomark _)))
    (fun C s H fp => pv 0)) pa_nil))), ?_⟩
  refine ⟨_, rfl, x, sy, rfl, hx, h500, fun r xs G1 s1 gr hd => ⟨r, rfl, ⟨_, SqL.of gr⟩, fun D hD => ?_⟩⟩
  have lx : xs.length = sy.size := by rw [hd.length, List.length_map, parts_len]
  refine comp_list (K := K) (a := r) (xs := xs) (fun i ys G2 => Same G1 G2 ∧ G2 D = some (.lst ys) ∧ ys.length = ((sy.parts.take i).filter Say.isN).length) ⟨same_new hD _, upd_same, rfl⟩ (fun i ys G2 z => z.2.1) (fun i ys G2 _ z => SqL.of (z.1 _ _ gr)) ?_ ?_
  · rintro i x' ys G2 hx' ⟨s2, d2, e2⟩
    obtain ⟨p, ep, hp⟩ := hd.getm hx'
    obtain ⟨a, zs, rfl, ha, _⟩ := da_open hp
    have il : i < sy.parts.length := (List.getElem?_eq_some_iff.mp ep).1
    rw [parts_len] at il
    have yl : ys.length ≤ i := by
      rw [e2]
      exact Nat.le_trans (List.length_filter_le _ _) (by rw [List.length_take]; omega)
    have e3 : ((sy.parts.take (i + 1)).filter Say.isN).length = ys.length + (if p.isN = true then 1 else 0) := by
      rw [List.take_add_one, ep, List.filter_append, List.length_append, ← e2]
      cases q : p.isN <;> simp [q]
    refine ⟨small1000 (by omega), ⟨[some _], rfl, rfl⟩, ?_⟩
    refine ⟨_, rfl, a, _, _, _, rfl, rfl, ha.same s2, at0' _ _, rfl, _, rfl, ?_⟩
    rw [is_N]
    refine ite2 (fun c => ?_) (fun c => ?_)
    · refine ⟨_, rfl, d2, Same.put s2 hD _, upd_same, ?_⟩
      rw [e3, if_pos c, List.length_append]
      rfl
    · refine ⟨s2, d2, ?_⟩
      rw [e3, if_neg c]
      rfl
  · rintro ys G2 ⟨s2, d2, e2⟩
    refine ⟨D, ys, rfl, .inl (SqL.of d2), ?_⟩
    rw [e2, lx, ← parts_len, List.take_length, parts_notes]
    exact q G2 (Same.trans s1 s2)
end
end S7


set_option Elab.async false
set_option maxRecDepth 100000
set_option maxHeartbeats 4000000
/-! k72, lone, joined -/
/-! k11, lone, joined -/
/-! k12, fifth part: the law's own growing of sayings -/
namespace L2
/-- an if whose test leaves R where it is not so, T where it is so -/
theorem ifS {c : TT} {a b : TS} {D : Ends} {σ : St} {H : Hp} (R T : Hp → Prop) (hc : ∀ k : Bool → Hp → Prop, (∀ G, R G → k false G) → (∀ G, T G → k true G) → c σ H k) (ha : ∀ G, T G → a D σ G) (hb : ∀ G, R G → b D σ G) : tIfS c a b D σ H :=
  hc _ (fun G r => iteF (hb G r)) (fun G t => iteT (ha G t))
/-- a and b, two bools -/
theorem andV {ta tb : TE} {σ : St} {H : Hp} {Q : VK} {c d : Bool} (h1 : ∀ k : VK, k (.bl c) H → ta σ H k) (h2 : ∀ k : VK, k (.bl d) H → tb σ H k) (q : Q (.bl (c && d)) H) : tAndV ta tb σ H Q := by
  refine h1 _ ⟨c, rfl, ?_⟩
  cases c with
  | false => exact iteF q
  | true => exact iteT (h2 _ q)
end L2
namespace S7
open PySem L2
abbrev Item := Say × Int
def itemD (i : Item) : Da := .lst [i.1.da, .flat (.bl i.1.isT), .flat (.int (i.1.nts : Int)), .flat (.int i.2)]
def total (is : List Item) : Nat := (is.map fun i => i.1.size).sum
theorem total_app (a b : List Item) : total (a ++ b) = total a + total b := by simp [total]
theorem total_one (i : Item) : total [i] = i.1.size := by simp [total]
theorem total_ge : ∀ is : List Item, is.length ≤ total is
  | [] => Nat.le_refl _
  | i :: r => by
    have z := total_ge r
    have y := size_pos i.1
    show r.length + 1 ≤ total ([i] ++ r)
    rw [total_app, total_one]
    omega
theorem Keep.trans {p : Addr} {H G G' : Hp} (a : Keep p H G) (b : Keep p G G') : Keep p H G' := fun c o h e => b c o h (a c o h e)
theorem Keep.new {p t : Addr} {H G : Hp} (a : Keep p H G) (h : G t = none) (o : HO) : Keep p H (upd G t o) := fun c u hc e => by
  have z := a c u hc e
  rw [upd_ne (ne_of_none z h)]
  exact z
theorem item_open {K : PySem.W.Frag} {H : Hp} {x : V} {i : Item} (h : Hold K H x (itemD i)) : ∃ a y, x = .ref a ∧ SqL K H a [y, .bl i.1.isT, .int (i.1.nts : Int), .int i.2] ∧ Hold K H y i.1.da := by
  obtain ⟨a, xs, e, ha, hd⟩ := Hold.lstI h
  cases hd with
  | cons h1 r1 =>
    cases r1 with
    | cons h2 r2 =>
      cases r2 with
      | cons h3 r3 =>
        cases r3 with
        | cons h4 r4 =>
          cases r4
          cases h2.flatI
          cases h3.flatI
          cases h4.flatI
          exact ⟨a, _, e, ha, h1⟩
theorem item_made {K : PySem.W.Frag} {H : Hp} {a : Addr} {y : V} {i : Item} {t : Bool} {n : Int} (ha : H a = some (.lst [y, .bl t, .int n, .int i.2])) (hy : Hold K H y i.1.da) (ht : t = i.1.isT) (hn : n = (i.1.nts : Int)) : Hold K H (.ref a) (itemD i) := by
  subst ht hn
  exact .lst (SqL.of ha) (.cons hy (.cons (.flat rfl) (.cons (.flat rfl) (.cons (.flat rfl) .nil))))
theorem cut_but1 (ys : List V) (a : V) : cutV (ys ++ [a]) none (some (-1)) = ys := by
  unfold cutV
  have e : HT.sIx (ys ++ [a]).length (ys ++ [a]).length (some (-1)) = ys.length := by
    show (if (-1 : Int) < 0 then ((-1 : Int) + ((ys ++ [a]).length : Int)).toNat else min (-1 : Int).toNat (ys ++ [a]).length) = _
    rw [if_pos (by decide), List.length_append, List.length_singleton]
    omega
  rw [e, HT.sIx_none, List.drop_zero, Nat.sub_zero]
  exact List.take_left
theorem cut_but2 (ys : List V) (a b : V) : cutV (ys ++ [a, b]) none (some (-2)) = ys := by
  unfold cutV
  have e : HT.sIx (ys ++ [a, b]).length (ys ++ [a, b]).length (some (-2)) = ys.length := by
    show (if (-2 : Int) < 0 then ((-2 : Int) + ((ys ++ [a, b]).length : Int)).toNat else min (-2 : Int).toNat (ys ++ [a, b]).length) = _
    rw [if_pos (by decide), List.length_append]
    show ((-2 : Int) + ((ys.length + 2 : Nat) : Int)).toNat = ys.length
    omega
  rw [e, HT.sIx_none, List.drop_zero, Nat.sub_zero]
  exact List.take_left
theorem cut_last2 (ys : List V) (a b : V) : cutV (ys ++ [a, b]) (some (-2)) none = [a, b] := by
  unfold cutV
  have e : HT.sIx (ys ++ [a, b]).length 0 (some (-2)) = ys.length := by
    show (if (-2 : Int) < 0 then ((-2 : Int) + ((ys ++ [a, b]).length : Int)).toNat else min (-2 : Int).toNat (ys ++ [a, b]).length) = _
    rw [if_pos (by decide), List.length_append]
    show ((-2 : Int) + ((ys.length + 2 : Nat) : Int)).toNat = ys.length
    omega
  rw [e, HT.sIx_none, List.drop_left, List.length_append, Nat.add_sub_cancel_left]
  rfl

def spLone (K : PySem.W.Frag) : Sp := fun vs H Q _ => ∃ (st a b : Int) (p sp : Addr) (ws : List (Str × Nat)), vs = [.int st, .ref p, .ref sp] ∧ 0 ≤ st ∧ st ≤ 3 ∧ H p = some (.lst [.int a, .int b]) ∧ 0 ≤ a ∧ 0 ≤ b ∧ Hold K H (.ref sp) (speechD ws) ∧ SpeechOk ws ∧
  ∀ (x : V) (s : Say) (G : Hp), Keep p H G → Hold K G x s.da → s.isT = !decide (V.int st = V.int 1) → s.nts = 0 → s.size = 1 → Q x G
def spJoined (K : PySem.W.Frag) : Sp := fun vs H Q _ => ∃ (r : Addr) (wd : Str) (xs : List V) (is0 : List Item) (i1 i2 : Item), vs = [.ref r, .str wd] ∧ (wd = "either" ∨ wd = "then") ∧ H r = some (.lst xs) ∧ Holds K H xs ((is0 ++ [i1, i2]).map itemD) ∧ is0.length ≤ 500 ∧
  ∀ (r' : Addr) (xs' : List V) (s : Say) (d : Int) (H' : Hp), Same H H' → H' r' = some (.lst xs') → Holds K H' xs' ((is0 ++ [(s, d)]).map itemD) → s.size = i1.1.size + i2.1.size + 1 → Q (.ref r') H'
section
variable {P : Program} {w : World} {K : PySem.W.Frag} {mg : Str → Option Value} {base : Heap}
theorem scLn : FnScope ["_law_sort", "_law_purse_here", "_law_speech_here", "_law_field", "_law_count"] ["_law_sort", "_law_purse_here", "_law_speech_here"] (defScope sLone) := ⟨rfl, rfl, rfl, by decide +kernel, rfl, by decide +kernel, by decide +kernel⟩
theorem ok_lone {f fT : Addr} {fd fdT : FuncData} (F : Fun K "_law_lone" "_law_lone" sLone f fd) (GT : FnOk P w K mg base CX0 1 fT fdT ["_law_purse_here", "_law_many"] spTake) (bT : Binds K fdT ["_law_purse_here", "_law_many"] [])
    (kT : PySem.W.keepIn K (.ref fT) = true) (mT : mg "_law_take" = some (.ref fT)) (ml : mg "len" = none) : FnOk P w K mg base CX0 2 f fd ["_law_sort", "_law_purse_here", "_law_speech_here"] (spLone K) := by
  refine F.ok scLn (fun vs H Q E h => ?_) (fun cdv A outer s H vs Q E hr h => ?_)
  · obtain ⟨st, a, b, p, sp, ws, rfl, _⟩ := h
    rfl
  obtain ⟨st, a, b, p, sp, ws, rfl, st0, st3, hp, ha, hb, hs, sk, q⟩ := h
  refine ⟨_, pss_cons (ps_asg (pe_ix ix_tup (pv 2) (pe_call GT hr rfl mT kT bT .nil pass0 (pa_cons (pv 1) (pa_cons (pe_callB call_len_seq rfl ml PySem.boot_len (pa_cons (pv 2) pa_nil)) pa_nil))) (fun _ _ => rfl))
      (pg_tup rfl (pgs_cons (pg_name (i := 3) scLn.nd rfl (Or.inl rfl)) (pgs_cons (pg_name (i := 4) scLn.nd rfl (Or.inl rfl)) pgs_nil))))
    (pss_one (ps_ret (pe_ix ix_list (pe_lst (pa_cons (pe_tup (pa_cons pe_str (pa_cons (pv 3) (pa_cons (pe_call GT hr rfl mT kT bT .nil pass0 (pa_cons (pv 1) (pa_cons (pv 4) pa_nil))) pa_nil))))
      (pa_cons (pe_tup (pa_cons pe_str (pa_cons (pv 3) (pa_cons (pe_call GT hr rfl mT kT bT .nil pass0 (pa_cons (pv 1) (pa_cons (pv 4) pa_nil))) pa_nil))))
      (pa_cons (pe_tup (pa_cons pe_str pa_nil)) (pa_cons (pe_tup (pa_cons pe_str pa_nil)) pa_nil))))) (pv 0) (fun _ _ => rfl)))), ?_⟩
  obtain ⟨a', vs, ea, hsp, hd⟩ := Hold.tupI hs
  cases ea
  have lv : vs.length = ws.length := by rw [hd.length, List.length_map]
  have s1 := sk.lo
  have s3 := sk.hi
  refine ⟨_, rfl, _, rfl, _, rfl, sp, _, rfl, .inr hsp, p, a, b, _, rfl, hp, ha, hb, by omega, by omega, fun v a1 b1 G1 v0 v1 ha1 hb1 g1 k1 => ?_⟩
  have hv : v.toNat < vs.length := by omega
  have ev : atI vs v = some vs[v.toNat] := by
    have z : atI vs ((v.toNat : Nat) : Int) = some vs[v.toNat] := atI_nat (List.getElem?_eq_getElem hv)
    rwa [show ((v.toNat : Nat) : Int) = v by omega] at z
  obtain ⟨w', ew, hw⟩ := hd.getm (List.getElem?_eq_getElem hv)
  obtain ⟨c, ys, ec, hc, hys⟩ := Hold.tupI hw
  have h6 := sk.cnt w' (List.mem_of_getElem? ew)
  have t1 : Tups H G1 := Tups.but hp k1
  refine ⟨sp, _, _, _, rfl, rfl, hsp.tups t1, ev, ?_⟩
  rw [ec]
  cases hys with
  | cons h1 r1 =>
    cases r1 with
    | cons h2 r2 =>
      cases r2
      cases h1.flatI
      cases h2.flatI
      refine ⟨c, _, rfl, hc.tups t1, rfl, _, _, rfl, _, _, rfl, rfl, ?_⟩
      refine ⟨_, rfl, _, rfl, _, rfl, p, a1, b1, _, rfl, g1, ha1, hb1, by omega, by omega, fun v2 a2 b2 G2 v20 v21 ha2 hb2 g2 k2 => ⟨(by show 3 ≤ sizeLine; decide), fun t1 ht1 => ?_⟩⟩
      have pt1 : p ≠ t1 := ne_of_none g2 ht1
      refine ⟨_, rfl, _, rfl, _, rfl, p, a2, b2, _, rfl, (by rw [upd_ne pt1]; exact g2), ha2, hb2, by omega, by omega, fun v3 a3 b3 G3 v30 v31 ha3 hb3 g3 k3 => ⟨(by show 3 ≤ sizeLine; decide), fun t2 ht2 => ?_⟩⟩
      refine ⟨(by show 1 ≤ sizeLine; decide), fun t3 ht3 => ⟨(by show 1 ≤ sizeLine; decide), fun t4 ht4 => ⟨(by show 4 ≤ sizeLine; decide), fun l hl => ?_⟩⟩⟩
      have e1 : G3 t1 = some (.tup [.str "is", .str w'.1, .int v2]) := k3 _ _ pt1.symm upd_same
      have kp : Keep p H (upd (upd (upd (upd G3 t2 (.tup [.str "put", .str w'.1, .int v3])) t3 (.tup [.str "all"])) t4 (.tup [.str "none"])) l (.lst [.ref t1, .ref t2, .ref t3, .ref t4])) :=
        ((((((Keep.trans k1 k2).new ht1 _).trans k3).new ht2 _).new ht3 _).new ht4 _).new hl _
      have sN : Same G3 (upd (upd (upd (upd G3 t2 (.tup [.str "put", .str w'.1, .int v3])) t3 (.tup [.str "all"])) t4 (.tup [.str "none"])) l (.lst [.ref t1, .ref t2, .ref t3, .ref t4])) :=
        Same.trans (Same.trans (Same.trans (same_new ht2 _) (same_new ht3 _)) (same_new ht4 _)) (same_new hl _)
      have sN2 : Same (upd G3 t2 (.tup [.str "put", .str w'.1, .int v3])) (upd (upd (upd (upd G3 t2 (.tup [.str "put", .str w'.1, .int v3])) t3 (.tup [.str "all"])) t4 (.tup [.str "none"])) l (.lst [.ref t1, .ref t2, .ref t3, .ref t4])) :=
        Same.trans (Same.trans (same_new ht3 _) (same_new ht4 _)) (same_new hl _)
      have sN3 : Same (upd (upd G3 t2 (.tup [.str "put", .str w'.1, .int v3])) t3 (.tup [.str "all"])) (upd (upd (upd (upd G3 t2 (.tup [.str "put", .str w'.1, .int v3])) t3 (.tup [.str "all"])) t4 (.tup [.str "none"])) l (.lst [.ref t1, .ref t2, .ref t3, .ref t4])) :=
        Same.trans (same_new ht4 _) (same_new hl _)
      have four : st = 0 ∨ st = 1 ∨ st = 2 ∨ st = 3 := by omega
      rcases four with e | e | e | e
      · subst e
        refine ⟨_, rfl, l, _, _, _, rfl, rfl, SqL.of upd_same, rfl, ?_⟩
        exact q (.ref t1) (.is ⟨w'.1, word_repr (sk.word w' (List.mem_of_getElem? ew))⟩ ⟨v2, log_small ⟨by omega, by omega⟩⟩) _ kp (.tup (SqT.of (sN _ _ e1)) (.cons (.flat rfl) (.cons (.flat rfl) (.cons (.flat rfl) .nil)))) rfl rfl rfl
      · subst e
        refine ⟨_, rfl, l, _, _, _, rfl, rfl, SqL.of upd_same, rfl, ?_⟩
        exact q (.ref t2) (.put ⟨w'.1, word_repr (sk.word w' (List.mem_of_getElem? ew))⟩ ⟨v3, log_small ⟨by omega, by omega⟩⟩) _ kp (.tup (SqT.of (sN2 _ _ upd_same)) (.cons (.flat rfl) (.cons (.flat rfl) (.cons (.flat rfl) .nil)))) rfl rfl rfl
      · subst e
        refine ⟨_, rfl, l, _, _, _, rfl, rfl, SqL.of upd_same, rfl, ?_⟩
        exact q (.ref t3) .every _ kp (.tup (SqT.of (sN3 _ _ upd_same)) (.cons (.flat rfl) .nil)) rfl rfl rfl
      · subst e
        refine ⟨_, rfl, l, _, _, _, rfl, rfl, SqL.of upd_same, rfl, ?_⟩
        exact q (.ref t4) .nought _ kp (.tup (SqT.of (same_new hl _ _ _ upd_same)) (.cons (.flat rfl) .nil)) rfl rfl rfl

theorem holds_snoc2 {xs : List V} {is0 : List Item} {i1 i2 : Item} {H : Hp} (h : Holds K H xs ((is0 ++ [i1, i2]).map itemD)) : ∃ ys x1 x2, xs = ys ++ [x1, x2] ∧ Holds K H ys (is0.map itemD) ∧ Hold K H x1 (itemD i1) ∧ Hold K H x2 (itemD i2) := by
  have e : (is0 ++ [i1, i2]).map itemD = (is0.map itemD ++ [itemD i1]) ++ [itemD i2] := by simp
  rw [e] at h
  obtain ⟨zs, x2, rfl, h1, h2⟩ := holds_snoc h
  obtain ⟨ys, x1, rfl, h3, h4⟩ := holds_snoc h1
  exact ⟨ys, x1, x2, by simp, h3, h4, h2⟩
theorem scJo : FnScope ["_law_row", "_law_word", "_law_one", "_law_other", "_law_made"] ["_law_row", "_law_word"] (defScope sJoined) := ⟨rfl, rfl, rfl, by decide +kernel, rfl, by decide +kernel, by decide +kernel⟩
theorem ok_joined {f : Addr} {fd : FuncData} (F : Fun K "_law_joined" "_law_joined" sJoined f fd) (mx : mg "max" = none) : FnOk P w K mg base CX0 1 f fd ["_law_row", "_law_word"] (spJoined K) := by
  refine F.ok scJo (fun vs H Q E h => ?_) (fun cdv A outer s H vs Q E hr h => ?_)
  · obtain ⟨r, wd, xs, is0, i1, i2, rfl, _⟩ := h
    rfl
  obtain ⟨r, wd, xs, is0, i1, i2, rfl, hwd, gr, hd, l500, q⟩ := h
  refine ⟨_, pss_cons (ps_asg (pe_slice sl_list (pv 0) (po_some (pe_un un_neg pe_int)) po_none) (pg_lst rfl (pgs_cons (pg_name (i := 2) scJo.nd rfl (Or.inl rfl)) (pgs_cons (pg_name (i := 3) scJo.nd rfl (Or.inl rfl)) pgs_nil))))
    (pss_cons (ps_set (i := 4) scJo.nd rfl (Or.inl rfl) (pe_tup (pa_cons (pv 1) (pa_cons (pe_ix ix_list (pv 2) pe_int (fun _ _ => rfl)) (pa_cons (pe_ix ix_list (pv 3) pe_int (fun _ _ => rfl)) pa_nil)))))
    (pss_one (ps_ret (pe_op op_cat (pe_slice sl_list (pv 0) po_none (po_some (pe_un un_neg pe_int))) (pe_lst (pa_cons (pe_lst (pa_cons (pv 4)
      (pa_cons (pe_and (pe_ix ix_list (pv 2) pe_int (fun _ _ => rfl)) (pe_one (pe_ix ix_list (pv 3) pe_int (fun _ _ => rfl))))
      (pa_cons (pe_op op_add (pe_ix ix_list (pv 2) pe_int (fun _ _ => rfl)) (pe_ix ix_list (pv 3) pe_int (fun _ _ => rfl)))
      (pa_cons (pe_callB (call_max2 rfl) rfl mx (by kernel_rfl) (pa_cons (pe_ix ix_list (pv 2) pe_int (fun _ _ => rfl)) (pa_cons (pe_ix ix_list (pv 3) pe_int (fun _ _ => rfl)) pa_nil))) pa_nil))))) pa_nil)))))), ?_⟩
  obtain ⟨ys, x1, x2, rfl, hy, hx1, hx2⟩ := holds_snoc2 hd
  obtain ⟨c1, y1, rfl, hc1, hy1⟩ := item_open hx1
  obtain ⟨c2, y2, rfl, hc2, hy2⟩ := item_open hx2
  have ly : ys.length = is0.length := by rw [hy.length, List.length_map]
  refine ⟨_, rfl, _, rfl, _, rfl, r, _, rfl, SqL.of gr, fun p hp => ?_⟩
  rw [show -(2 : Int) = -2 from rfl, cut_last2]
  have sp : Same H (upd H p (.lst [.ref c1, .ref c2])) := same_new hp _
  refine ⟨p, _, rfl, SqL.of upd_same, rfl, _, _, rfl, _, _, rfl, rfl, ?_⟩
  refine ⟨_, rfl, _, rfl, c1, _, _, _, rfl, rfl, sp.seq hc1, rfl, _, rfl, c2, _, _, _, rfl, rfl, sp.seq hc2, rfl, (by show 3 ≤ sizeLine; decide), fun t ht => ?_⟩
  have st : Same H (upd (upd H p (.lst [.ref c1, .ref c2])) t (.tup [.str wd, y1, y2])) := Same.trans sp (same_new ht _)
  refine ⟨_, rfl, _, rfl, _, rfl, r, _, rfl, SqL.of (st _ _ gr), fun p2 hp2 => ?_⟩
  rw [show -(2 : Int) = -2 from rfl, cut_but2]
  have s2 := Same.trans st (same_new hp2 (.lst ys))
  refine ⟨_, rfl, ?_⟩
  refine andV (c := i1.1.isT) (d := i2.1.isT) (fun k hk => ⟨_, rfl, c1, _, _, _, rfl, rfl, s2.seq hc1, rfl, hk⟩) (fun k hk => ⟨_, rfl, c2, _, _, _, rfl, rfl, s2.seq hc2, rfl, hk⟩) ?_
  refine ⟨_, rfl, c1, _, _, _, rfl, rfl, s2.seq hc1, rfl, _, rfl, c2, _, _, _, rfl, rfl, s2.seq hc2, rfl, _, _, rfl, rfl, _, rfl, c1, _, _, _, rfl, rfl, s2.seq hc1, rfl, _, rfl, c2, _, _, _, rfl, rfl, s2.seq hc2, rfl, _, _, rfl, (by show 4 ≤ sizeLine; decide), fun l hl => ⟨(by show 1 ≤ sizeLine; decide), fun l2 hl2 => ?_⟩⟩
  have hp2n : upd (upd H p (.lst [.ref c1, .ref c2])) t (.tup [.str wd, y1, y2]) p2 = none := hp2
  generalize hG2 : upd (upd (upd H p (.lst [.ref c1, .ref c2])) t (.tup [.str wd, y1, y2])) p2 (.lst ys) = G2 at s2 hl hl2 ⊢
  have g2p : G2 p2 = some (.lst ys) := by rw [← hG2, upd_same]
  have g2t : G2 t = some (.tup [.str wd, y1, y2]) := by
    rw [← hG2]
    exact same_new hp2n _ _ _ upd_same
  generalize hdd : (if i2.2 > i1.2 then i2.2 else i1.2) = dd at hl2 ⊢
  have s3 : Same G2 (upd G2 l (.lst [.ref t, .bl (i1.1.isT && i2.1.isT), .int ((i1.1.nts : Int) + (i2.1.nts : Int)), .int dd])) := same_new hl _
  have s4 := Same.trans s3 (same_new hl2 (.lst [.ref l]))
  refine ⟨p2, l2, _, _, rfl, rfl, s4 _ _ g2p, upd_same, small (by show ys.length + 1 ≤ 1000; omega), fun p3 hp3 => ?_⟩
  have s5 := Same.trans s4 (same_new hp3 (.lst (ys ++ [.ref l])))
  have sAll := Same.trans s2 s5
  have gl : upd (upd (upd G2 l (.lst [.ref t, .bl (i1.1.isT && i2.1.isT), .int ((i1.1.nts : Int) + (i2.1.nts : Int)), .int dd])) l2 (.lst [.ref l])) p3 (.lst (ys ++ [.ref l])) l = some (.lst [.ref t, .bl (i1.1.isT && i2.1.isT), .int ((i1.1.nts : Int) + (i2.1.nts : Int)), .int dd]) :=
    Same.trans (same_new hl2 _) (same_new hp3 _) _ _ upd_same
  have go : ∀ s : Say, s.da = .tup [.flat (.str wd), i1.1.da, i2.1.da] → s.isT = (i1.1.isT && i2.1.isT) → s.nts = i1.1.nts + i2.1.nts → s.size = i1.1.size + i2.1.size + 1 → Q (.ref p3) _ := fun sy e1 e2 e3 e4 => by
    refine q p3 (ys ++ [.ref l]) sy dd _ sAll upd_same ?_ e4
    rw [List.map_append]
    refine Holds.append (Holds.mono sAll hy) (.one (item_made (i := (sy, dd)) gl ?_ e2.symm (by rw [e3]; push_cast; rfl)))
    show Hold K _ (.ref t) sy.da
    rw [e1]
    exact .tup (SqT.of (s5 _ _ g2t)) (.cons (.flat rfl) (.cons (Hold.mono sAll hy1) (.cons (Hold.mono sAll hy2) .nil)))
  rcases hwd with e | e
  · exact go (.either i1.1 i2.1) (by rw [e]; rfl) rfl rfl rfl
  · exact go (.both i1.1 i2.1) (by rw [e]; rfl) rfl rfl rfl
end
end S7


set_option Elab.async false
set_option maxRecDepth 100000
set_option maxHeartbeats 4000000
/-! k72, grown -/
/-! k11, grown -/
/-! k12, sixth part: one cell more -/
namespace L2
open PySem
theorem ifQ {c : TT} {a b u : TS} {D : Ends} {σ : St} {H : Hp} (R T : Hp → Prop) (hc : ∀ k : Bool → Hp → Prop, (∀ G, R G → k false G) → (∀ G, T G → k true G) → c σ H k) (ha : ∀ G, T G → a { D with nx := u D } σ G) (hb : ∀ G, R G → b { D with nx := u D } σ G) : tSeq (tIfS c a b) u D σ H := ifS R T hc ha hb
end L2
namespace S7
open PySem L2
def scC3 : Scope := { kind := .function, names := [(".0", .local), ("_law_one", .local)], isGenerator := false, isCoroutine := false, more := [] }
theorem csC3 {X : Cx} : CScope X ["_law_one"] [] [] scC3 [] := cs_plain rfl (by decide +kernel) (by decide +kernel) (by decide +kernel)
def spGrown (K : PySem.W.Frag) : Sp := fun vs H Q _ => ∃ (r sp : Addr) (cell most : Int) (xs : List V) (is0 : List Item) (it : Item) (ws : List (Str × Nat)), vs = [.ref r, .int cell, .ref sp, .int most] ∧ H r = some (.lst xs) ∧ Holds K H xs ((is0 ++ [it]).map itemD) ∧ total (is0 ++ [it]) ≤ 300 ∧
  Hold K H (.ref sp) (speechD ws) ∧ SpeechOk ws ∧
  ∀ (r' : Addr) (xs' : List V) (js : List Item) (j : Item) (H' : Hp), Same H H' → H' r' = some (.lst xs') → Holds K H' xs' ((js ++ [j]).map itemD) → total (js ++ [j]) ≤ total (is0 ++ [it]) + 1 → Q (.ref r') H'
/-- the row stands, the purse is a purse -/
def Ready (H : Hp) (p : Addr) (G : Hp) : Prop := Same H G ∧ ∃ a b : Int, G p = some (.lst [.int a, .int b]) ∧ 0 ≤ a ∧ 0 ≤ b
section
variable {P : Program} {w : World} {K : PySem.W.Frag} {mg : Str → Option Value} {base : Heap}
theorem scGr : FnScope ["_law_row", "_law_cell_here", "_law_speech_here", "_law_most", "_law_purse_here", "_law_sort", "_law_last"] ["_law_row", "_law_cell_here", "_law_speech_here", "_law_most"] (defScope sGrown) :=
  ⟨rfl, rfl, rfl, by decide +kernel, rfl, by decide +kernel, by decide +kernel⟩
theorem ok_grown {f fP fT fL fJ : Addr} {fd fdP fdT fdL fdJ : FuncData} (F : Fun K "_law_grown" "_law_grown" sGrown f fd)
    (GP : FnOk P w K mg base CX0 1 fP fdP ["_law_cell_here"] spPurse) (bP : Binds K fdP ["_law_cell_here"] []) (kP : PySem.W.keepIn K (.ref fP) = true) (mP : mg "_law_purse" = some (.ref fP))
    (GT : FnOk P w K mg base CX0 1 fT fdT ["_law_purse_here", "_law_many"] spTake) (bT : Binds K fdT ["_law_purse_here", "_law_many"] []) (kT : PySem.W.keepIn K (.ref fT) = true) (mT : mg "_law_take" = some (.ref fT))
    (GL : FnOk P w K mg base CX0 2 fL fdL ["_law_sort", "_law_purse_here", "_law_speech_here"] (spLone K)) (bL : Binds K fdL ["_law_sort", "_law_purse_here", "_law_speech_here"] []) (kL : PySem.W.keepIn K (.ref fL) = true) (mL : mg "_law_lone" = some (.ref fL))
    (GJ : FnOk P w K mg base CX0 1 fJ fdJ ["_law_row", "_law_word"] (spJoined K)) (bJ : Binds K fdJ ["_law_row", "_law_word"] []) (kJ : PySem.W.keepIn K (.ref fJ) = true) (mJ : mg "_law_joined" = some (.ref fJ))
    (ms : mg "sum" = none) (ml : mg "len" = none) : FnOk P w K mg base CX0 3 f fd ["_law_row", "_law_cell_here", "_law_speech_here", "_law_most"] (spGrown K) := by
  refine F.ok scGr (fun vs H Q E h => ?_) (fun cdv A outer s H vs Q E hr h => ?_)
  · obtain ⟨r, sp, cell, most, xs, is0, it, ws, rfl, _⟩ := h
    rfl
  obtain ⟨r, sp, cell, most, xs, is0, it, ws, rfl, gr, hd, t300, hsp, sk, q⟩ := h
  have hr1 : Room 1 _ := hr.mono (by decide)
  refine ⟨_, pss_cons (ps_set (i := 4) scGr.nd rfl (Or.inl rfl) (pe_call GP hr1 rfl mP kP bP .nil pass0 (pa_cons (pv 1) pa_nil)))
    (pss_cons (ps_set (i := 5) scGr.nd rfl (Or.inl rfl) (pe_call GT hr1 rfl mT kT bT .nil pass0 (pa_cons (pv 4) (pc_c pe_int pa_nil))))
    (pss_cons (ps_set (i := 6) scGr.nd rfl (Or.inl rfl) (pe_ix ix_list (pv 0) (pe_un un_neg pe_int) (fun _ _ => rfl)))
    (pss_cons (ps_if (PW.pt (pw_and (pt_cmpR op_eq (pv 5) pe_int (nomark _)) (pw_and1 (pt_cmpR op_lt (pe_callB (call_sumZ rfl) rfl ms (by kernel_rfl) (pa_cons (pe_comp (ns := ["_law_one"]) (ys := []) (sc := scC3) csC3 rfl (pi_list (pv 0))
        (fun C s H fp => pg_name (i := 0) (by show (["_law_one"] : List Str).Nodup; decide +kernel) rfl (Or.inl rfl)) (fun C s H fp => pts_nil) (fun C s H fp => pe_ix (r := rIxL K) ix_list (pv 0) pe_int (fun _ _ => rfl))) pa_nil)) (pv 3) (nomark _)))))
      (pss_one (ps_ret (pe_op op_cat (pv 0) (pe_lst (pa_cons (pe_lst (pa_cons (pe_tup (pc_c pe_str pa_nil)) (pc_c pe_bl (pc_c pe_int (pc_c pe_int pa_nil))))) pa_nil))))) pss_nil)
    (pss_cons (ps_if (PW.pt (pw_and (pt_cmpR op_eq (pv 5) pe_int (nomark _)) (pw_and1 (pt_val (pe_ix ix_list (pv 6) pe_int (fun _ _ => rfl))))))
      (pss_one (ps_ret (pe_op op_cat (pe_slice sl_list (pv 0) po_none (po_some (pe_un un_neg pe_int))) (pe_lst (pa_cons (pe_lst (pa_cons (pe_tup (pc_c pe_str (pa_cons (pe_ix ix_list (pv 6) pe_int (fun _ _ => rfl)) pa_nil))) (pc_c pe_bl (pc_c pe_int (pc_c pe_int pa_nil))))) pa_nil))))) pss_nil)
    (pss_cons (ps_if (PW.pt (pw_and (pt_cmpR op_eq (pv 5) pe_int (nomark _)) (pw_and1 (pt_cmpR op_lt (pe_ix ix_list (pv 6) pe_int (fun _ _ => rfl)) pe_int (nomark _)))))
      (pss_one (ps_ret (pe_op op_cat (pe_slice sl_list (pv 0) po_none (po_some (pe_un un_neg pe_int))) (pe_lst (pa_cons (pe_lst (pa_cons (pe_tup (pc_c pe_str (pa_cons (pe_ix ix_list (pv 6) pe_int (fun _ _ => rfl)) pa_nil))) (pc_c pe_bl (pa_cons (pe_ix ix_list (pv 6) pe_int (fun _ _ => rfl)) (pa_cons (pe_op op_add (pe_ix ix_list (pv 6) pe_int (fun _ _ => rfl)) pe_int) pa_nil))))) pa_nil))))) pss_nil)
    (@pss_cons _ _ _ _ _ (ps_if (PW.pt (pw_and (pt_cmpR op_gt (pv 5) pe_int (nomark _)) (pw_and (pt_cmpR op_lt (pv 5) pe_int (nomark _)) (pw_and1 (pt_cmpR op_gt (pe_callB call_len_seq rfl ml PySem.boot_len (pa_cons (pv 0) pa_nil)) pe_int (nomark _))))))
      (pss_one (ps_ret (pe_call GJ hr1 rfl mJ kJ bJ .nil pass0 (pa_cons (pv 0) (pa_cons (pe_ix ix_list (pe_lst (pc_c pe_str (pc_c pe_str pa_nil))) (pe_op op_mod (pv 5) pe_int) (fun _ _ => rfl)) pa_nil))))) pss_nil)
    (@pss_cons _ _ _ _ _ (@ps_set _ _ 5 _ _ _ _ scGr.nd rfl (Or.inl rfl) (@pe_ix _ _ _ _ _ _ _ (@ix_list _) (@pe_lst _ _ _ _ (@pc_c _ _ _ _ _ _ _ (@pe_int _ _ _ _) (@pc_c _ _ _ _ _ _ _ (@pe_int _ _ _ _) (@pc_c _ _ _ _ _ _ _ (@pe_int _ _ _ _) (@pc_c _ _ _ _ _ _ _ (@pe_int _ _ _ _) (@pc_c _ _ _ _ _ _ _ (@pe_int _ _ _ _) (@pc_c _ _ _ _ _ _ _ (@pe_int _ _ _ _) (@pc_c _ _ _ _ _ _ _ (@pe_int _ _ _ _) (@pc_c _ _ _ _ _ _ _ (@pe_int _ _ _ _) (@pc_c _ _ _ _ _ _ _ (@pe_int _ _ _ _) (@pc_c _ _ _ _ _ _ _ (@pe_int _ _ _ _) (@pc_c _ _ _ _ _ _ _ (@pe_int _ _ _ _) (@pc_c _ _ _ _ _ _ _ (@pe_int _ _ _ _) (@pc_c _ _ _ _ _ _ _ (@pe_int _ _ _ _) (@pc_c _ _ _ _ _ _ _ (@pe_int _ _ _ _) (@pa_nil _)))))))))))))))) (pv 5) (fun _ _ => rfl)) rfl (Or.inl rfl))
    (pss_one (ps_ret (pe_op op_cat (pv 0) (pe_lst (pa_cons (pe_lst (pa_cons (pe_call GL hr rfl mL kL bL .nil pass0 (pa_cons (pv 5) (pa_cons (pv 4) (pa_cons (pv 2) pa_nil)))) (pa_cons (pe_cmpR op_ne (pv 5) pe_int (nomark _)) (pc_c pe_int (pc_c pe_int pa_nil))))) pa_nil)))))))))))), ?_⟩
  have hd' := hd
  rw [List.map_append] at hd'
  obtain ⟨ys, x0, rfl, hy, hx0⟩ := holds_snoc hd'
  obtain ⟨c0, y0, rfl, hc0, hy0⟩ := item_open hx0
  have ly : ys.length = is0.length := by rw [hy.length, List.length_map]
  have tl := total_ge (is0 ++ [it])
  rw [List.length_append, List.length_singleton] at tl
  have tt : total (is0 ++ [it]) = total is0 + it.1.size := by rw [total_app, total_one]
  have fin : ∀ (G4 : Hp) (p3 l : Addr) (zs : List V) (js : List Item) (j : Item), Same H G4 → G4 p3 = some (.lst (zs ++ [.ref l])) → Holds K G4 zs (js.map itemD) → Hold K G4 (.ref l) (itemD j) → total (js ++ [j]) ≤ total (is0 ++ [it]) + 1 → Q (.ref p3) G4 :=
    fun G4 p3 l zs js j s4 g4 h1 h2 h3 => q p3 _ js j G4 s4 g4 (by rw [List.map_append]; exact Holds.append h1 (.one h2)) h3
  -- the purse, the sort, the last one
  refine ⟨_, rfl, cell, rfl, fun p a0 b0 hp a0' b0' => ?_⟩
  refine ⟨_, rfl, p, a0, b0, 14, rfl, upd_same, a0', b0', by decide, by decide, fun v a b G v0 v1 ha hb g k => ?_⟩
  have s1 : Same H G := Same.keep (same_new hp _) hp k
  refine ⟨_, rfl, _, rfl, r, _, _, _, rfl, rfl, SqL.of (s1 _ _ gr), atI_last _ _, ?_⟩
  have R0 : Ready H p G := ⟨s1, a, b, g, ha, hb⟩
  have big : ∀ n : Nat, n ≤ 302 → n ≤ sizeLine := fun n hn => small (by omega)
  -- a note
  dsimp only [gName, tNext]
  refine ifQ (Ready H p) (Ready H p) (fun k kf kt => ?_) (fun G2 R2 => ?_) (fun G2 R2 => ?_)
  · refine ⟨_, rfl, rfl, _, rfl, ?_⟩
    refine ite2 (fun _ => ?_) (fun _ => kf G R0)
    refine ⟨_, rfl, r, rfl, ⟨_, SqL.of (s1 _ _ gr)⟩, fun D hD => ?_⟩
    refine comp_list (K := K) (a := r) (xs := ys ++ [.ref c0]) (fun i zs G3 => Same G G3 ∧ G3 D = some (.lst zs) ∧ zs = (((is0 ++ [it]).take i).map fun j => (j.1.nts : Int)).map V.int) ⟨same_new hD _, upd_same, rfl⟩ (fun i zs G3 z => z.2.1) (fun i zs G3 _ z => SqL.of (z.1 _ _ (s1 _ _ gr))) ?_ ?_
    · rintro i x' zs G3 hx' ⟨s3, d3, rfl⟩
      obtain ⟨j, ej, hj⟩ := hd.getm hx'
      obtain ⟨c, y, rfl, hc, _⟩ := item_open hj
      refine ⟨small1000 (by rw [List.length_map, List.length_map, List.length_take, List.length_append, List.length_singleton]; omega), ⟨[some _], rfl, rfl⟩, ?_⟩
      refine ⟨_, rfl, c, _, _, _, rfl, rfl, Same.seq (Same.trans s1 s3) hc, rfl, d3, Same.put s3 hD _, upd_same, ?_⟩
      rw [List.take_add_one, ej]
      simp
    · rintro zs G3 ⟨s3, d3, rfl⟩
      refine ⟨D, _, rfl, SqL.of d3, ?_, ?_, fun z => ?_⟩
      · rw [List.length_map, List.length_take, List.length_append, List.length_singleton]
        omega
      · intro n hn
        obtain ⟨j, hj, rfl⟩ := List.mem_map.mp hn
        have mj : j ∈ is0 ++ [it] := List.mem_of_mem_take hj
        have z1 := nts_le j.1
        have z2 : j.1.size ≤ total (is0 ++ [it]) := by
          obtain ⟨l1, l2, e⟩ := List.append_of_mem mj
          rw [e, show l1 ++ j :: l2 = l1 ++ ([j] ++ l2) from rfl, total_app, total_app, total_one]
          omega
        omega
      · have R3 : Ready H p G3 := ⟨Same.trans s1 s3, a, b, s3 _ _ g, ha, hb⟩
        refine ⟨_, rfl, _, _, rfl, rfl, _, rfl, ?_⟩
        cases decide (z < most) with
        | false => exact kf G3 R3
        | true => exact kt G3 R3
  · obtain ⟨s2, _⟩ := R2
    refine ⟨_, rfl, (by show 1 ≤ sizeLine; decide), fun t ht => ⟨(by show 4 ≤ sizeLine; decide), fun l hl => ⟨(by show 1 ≤ sizeLine; decide), fun l2 hl2 => ?_⟩⟩⟩
    have s3 : Same G2 (upd (upd (upd G2 t (.tup [.str "note"])) l (.lst [.ref t, .bl false, .int 1, .int 0])) l2 (.lst [.ref l])) := Same.trans (Same.trans (same_new ht _) (same_new hl _)) (same_new hl2 _)
    refine ⟨r, l2, _, _, rfl, rfl, s3 _ _ (s2 _ _ gr), upd_same, big _ (by rw [List.length_append]; show ys.length + 1 + 1 ≤ 302; omega), fun p3 hp3 => ?_⟩
    have s4 := Same.trans s3 (same_new hp3 (.lst ((ys ++ [.ref c0]) ++ [.ref l])))
    have sA := Same.trans s2 s4
    have sl : Same (upd (upd G2 t (.tup [.str "note"])) l (.lst [.ref t, .bl false, .int 1, .int 0])) (upd (upd (upd (upd G2 t (.tup [.str "note"])) l (.lst [.ref t, .bl false, .int 1, .int 0])) l2 (.lst [.ref l])) p3 (.lst ((ys ++ [.ref c0]) ++ [.ref l]))) := Same.trans (same_new hl2 _) (same_new hp3 _)
    refine fin _ p3 l _ (is0 ++ [it]) (.note, 0) sA upd_same (Holds.mono sA hd) (item_made (sl _ _ upd_same) (.tup (SqT.of (sl _ _ (same_new hl _ _ _ upd_same))) (.cons (.flat rfl) .nil)) rfl rfl) ?_
    rw [total_app (is0 ++ [it]), total_one]
    exact Nat.le_refl _
  -- not
  dsimp only [gName, tNext]
  refine ifQ (Ready H p) (fun G => Ready H p G ∧ it.1.isT = true) (fun k kf kt => ?_) (fun G3 R3 => ?_) (fun G3 R3 => ?_)
  · refine ⟨_, rfl, rfl, _, rfl, ?_⟩
    refine ite2 (fun _ => ?_) (fun _ => kf G2 R2)
    refine ⟨_, rfl, c0, _, _, _, rfl, rfl, Same.seq R2.1 hc0, rfl, it.1.isT, rfl, ?_⟩
    cases e : it.1.isT with
    | false => exact kf G2 R2
    | true => exact kt G2 ⟨R2, e⟩
  · obtain ⟨⟨s2, _⟩, eT⟩ := R3
    refine ⟨_, rfl, _, rfl, _, rfl, r, _, rfl, SqL.of (s2 _ _ gr), fun p2 hp2 => ?_⟩
    rw [show -(1 : Int) = -1 from rfl, cut_but1]
    have s3 := Same.trans s2 (same_new hp2 (.lst ys))
    refine ⟨_, rfl, c0, _, _, _, rfl, rfl, Same.seq s3 hc0, rfl, (by show 2 ≤ sizeLine; decide), fun t ht => ⟨(by show 4 ≤ sizeLine; decide), fun l hl => ⟨(by show 1 ≤ sizeLine; decide), fun l2 hl2 => ?_⟩⟩⟩
    have sB : Same (upd G3 p2 (.lst ys)) (upd (upd (upd (upd G3 p2 (.lst ys)) t (.tup [.str "not", y0])) l (.lst [.ref t, .bl true, .int 0, .int 0])) l2 (.lst [.ref l])) := Same.trans (Same.trans (same_new ht _) (same_new hl _)) (same_new hl2 _)
    refine ⟨p2, l2, _, _, rfl, rfl, sB _ _ upd_same, upd_same, big _ (by show ys.length + 1 ≤ 302; omega), fun p3 hp3 => ?_⟩
    have s4 := Same.trans sB (same_new hp3 (.lst (ys ++ [.ref l])))
    have sA := Same.trans s3 s4
    have sl : Same (upd (upd (upd G3 p2 (.lst ys)) t (.tup [.str "not", y0])) l (.lst [.ref t, .bl true, .int 0, .int 0])) (upd (upd (upd (upd (upd G3 p2 (.lst ys)) t (.tup [.str "not", y0])) l (.lst [.ref t, .bl true, .int 0, .int 0])) l2 (.lst [.ref l])) p3 (.lst (ys ++ [.ref l]))) := Same.trans (same_new hl2 _) (same_new hp3 _)
    refine fin _ p3 l _ is0 (.no it.1, 0) sA upd_same (Holds.mono sA hy) (item_made (sl _ _ upd_same) (.tup (SqT.of (sl _ _ (same_new hl _ _ _ upd_same))) (.cons (.flat rfl) (.cons (Hold.mono sA hy0) .nil))) eT.symm ?_) ?_
    · show (0 : Int) = ((it.1.nts : Nat) : Int)
      rw [test_no_notes _ eT]
      rfl
    · rw [total_app, total_one, tt]
      show total is0 + (it.1.size + 1) ≤ _
      omega
  -- again
  dsimp only [gName, tNext]
  refine ifQ (Ready H p) (Ready H p) (fun k kf kt => ?_) (fun G4 R4 => ?_) (fun G4 R4 => ?_)
  · refine ⟨_, rfl, rfl, _, rfl, ?_⟩
    refine ite2 (fun _ => ?_) (fun _ => kf G3 R3)
    refine ⟨_, rfl, c0, _, _, _, rfl, rfl, Same.seq R3.1 hc0, rfl, _, _, rfl, rfl, _, rfl, ?_⟩
    cases decide (it.2 < 3) with
    | false => exact kf G3 R3
    | true => exact kt G3 R3
  · obtain ⟨s2, _⟩ := R4
    refine ⟨_, rfl, _, rfl, _, rfl, r, _, rfl, SqL.of (s2 _ _ gr), fun p2 hp2 => ?_⟩
    rw [show -(1 : Int) = -1 from rfl, cut_but1]
    have s3 := Same.trans s2 (same_new hp2 (.lst ys))
    refine ⟨_, rfl, c0, _, _, _, rfl, rfl, Same.seq s3 hc0, rfl, (by show 2 ≤ sizeLine; decide), fun t ht => ?_⟩
    have s5 := Same.trans s3 (same_new ht (.tup [.str "again", y0]))
    refine ⟨_, rfl, c0, _, _, _, rfl, rfl, Same.seq s5 hc0, rfl, _, rfl, c0, _, _, _, rfl, rfl, Same.seq s5 hc0, rfl, _, _, rfl, rfl, (by show 4 ≤ sizeLine; decide), fun l hl => ⟨(by show 1 ≤ sizeLine; decide), fun l2 hl2 => ?_⟩⟩
    have sB : Same (upd G4 p2 (.lst ys)) (upd (upd (upd (upd G4 p2 (.lst ys)) t (.tup [.str "again", y0])) l (.lst [.ref t, .bl false, .int (it.1.nts : Int), .int (it.2 + 1)])) l2 (.lst [.ref l])) := Same.trans (Same.trans (same_new ht _) (same_new hl _)) (same_new hl2 _)
    refine ⟨p2, l2, _, _, rfl, rfl, sB _ _ upd_same, upd_same, big _ (by show ys.length + 1 ≤ 302; omega), fun p3 hp3 => ?_⟩
    have s4 := Same.trans sB (same_new hp3 (.lst (ys ++ [.ref l])))
    have sA := Same.trans s3 s4
    have sl : Same (upd (upd (upd G4 p2 (.lst ys)) t (.tup [.str "again", y0])) l (.lst [.ref t, .bl false, .int (it.1.nts : Int), .int (it.2 + 1)])) (upd (upd (upd (upd (upd G4 p2 (.lst ys)) t (.tup [.str "again", y0])) l (.lst [.ref t, .bl false, .int (it.1.nts : Int), .int (it.2 + 1)])) l2 (.lst [.ref l])) p3 (.lst (ys ++ [.ref l]))) := Same.trans (same_new hl2 _) (same_new hp3 _)
    refine fin _ p3 l _ is0 (.again it.1, it.2 + 1) sA upd_same (Holds.mono sA hy) (item_made (sl _ _ upd_same) (.tup (SqT.of (sl _ _ (same_new hl _ _ _ upd_same))) (.cons (.flat rfl) (.cons (Hold.mono sA hy0) .nil))) rfl rfl) ?_
    rw [total_app, total_one, tt]
    show total is0 + (it.1.size + 1) ≤ _
    omega
  -- two joined
  dsimp only [gName, tNext]
  refine ifQ (Ready H p) (fun G => Ready H p G ∧ 1 < (ys ++ [V.ref c0]).length) (fun k kf kt => ?_) (fun G5 R5 => ?_) (fun G5 R5 => ?_)
  · refine ⟨_, rfl, _, _, rfl, rfl, _, rfl, ?_⟩
    refine ite2 (fun _ => ?_) (fun _ => kf G4 R4)
    refine ⟨_, rfl, _, _, rfl, rfl, _, rfl, ?_⟩
    refine ite2 (fun _ => ?_) (fun _ => kf G4 R4)
    refine ⟨_, rfl, r, _, rfl, .inl (SqL.of (R4.1 _ _ gr)), _, _, rfl, rfl, _, rfl, ?_⟩
    cases e : decide ((1 : Int) < (((ys ++ [V.ref c0]).length : Nat) : Int)) with
    | false => exact kf G4 R4
    | true =>
      have z : (1 : Int) < (((ys ++ [V.ref c0]).length : Nat) : Int) := of_decide_eq_true e
      exact kt G4 ⟨R4, by omega⟩
  · obtain ⟨⟨s2, _⟩, l1⟩ := R5
    rw [List.length_append, List.length_singleton, ly] at l1
    rcases List.eq_nil_or_concat is0 with e | ⟨js, i1, e⟩
    · rw [e] at l1
      exact absurd l1 (by decide)
    rw [List.concat_eq_append] at e
    subst e
    refine ⟨_, rfl, (by show 2 ≤ sizeLine; decide), fun l hl => ?_⟩
    have s3 := Same.trans s2 (same_new hl (.lst [.str "either", .str "then"]))
    have e2 : (js ++ [i1]) ++ [it] = js ++ [i1, it] := by simp
    have wd2 : ∃ wd : Str, (wd = "either" ∨ wd = "then") ∧ atI [V.str "either", V.str "then"] (v % 2) = some (.str wd) := by
      have z : v % 2 = 0 ∨ v % 2 = 1 := by omega
      rcases z with z | z
      · rw [z]; exact ⟨_, .inl rfl, rfl⟩
      · rw [z]; exact ⟨_, .inr rfl, rfl⟩
    obtain ⟨wd, hwd, ewd⟩ := wd2
    refine ⟨_, rfl, _, _, rfl, rfl, (by show (0 : Int) < 2; decide), l, _, _, _, rfl, rfl, SqL.of upd_same, ewd, r, wd, _, js, i1, it, rfl, hwd, s3 _ _ gr, (by rw [← e2]; exact Holds.mono s3 hd), ?_, fun r' xs' sy d H' s4 g4 h4 e4 => ?_⟩
    · rw [List.length_append, List.length_singleton] at tl
      omega
    · refine q r' xs' js (sy, d) H' (Same.trans s3 s4) g4 h4 ?_
      rw [total_app, total_one, tt, total_app, total_one]
      show total js + sy.size ≤ _
      omega
  -- a lone one
  obtain ⟨s5, a5, b5, g5, ha5, hb5⟩ := R5
  refine ⟨(by show 14 ≤ sizeLine; decide), fun l0 hl0 => ?_⟩
  obtain ⟨st, stm, ste⟩ := menu (ns := [0, 1, 2, 3, 2, 0, 1, 0, 1, 0, 1, 0, 1, 0]) v0 v1
  have st3 : 0 ≤ st ∧ st ≤ 3 := by
    simp only [List.mem_cons, List.not_mem_nil, or_false] at stm
    omega
  refine ⟨_, rfl, l0, _, _, _, rfl, rfl, SqL.of upd_same, ste, ?_⟩
  have s6 := Same.trans s5 (same_new hl0 (.lst [.int 0, .int 1, .int 2, .int 3, .int 2, .int 0, .int 1, .int 0, .int 1, .int 0, .int 1, .int 0, .int 1, .int 0]))
  refine ⟨_, rfl, _, rfl, _, rfl, _, rfl, st, a5, b5, p, sp, ws, rfl, st3.1, st3.2, (same_new hl0 _ _ _ g5), ha5, hb5, Hold.mono s6 hsp, sk, fun x sy G7 k7 hx7 eT eN eS => ?_⟩
  have s7 : Same H G7 := Same.keep s6 hp k7
  refine ⟨_, rfl, rfl, (by show 4 ≤ sizeLine; decide), fun l hl => ⟨(by show 1 ≤ sizeLine; decide), fun l2 hl2 => ?_⟩⟩
  have s8 : Same G7 (upd (upd G7 l (.lst [x, .bl (!decide (V.int st = V.int 1)), .int 0, .int 0])) l2 (.lst [.ref l])) := Same.trans (same_new hl _) (same_new hl2 _)
  refine ⟨r, l2, _, _, rfl, rfl, s8 _ _ (s7 _ _ gr), upd_same, big _ (by rw [List.length_append]; show ys.length + 1 + 1 ≤ 302; omega), fun p3 hp3 => ?_⟩
  have s9 := Same.trans s8 (same_new hp3 (.lst ((ys ++ [.ref c0]) ++ [.ref l])))
  have sA := Same.trans s7 s9
  have sl : Same (upd G7 l (.lst [x, .bl (!decide (V.int st = V.int 1)), .int 0, .int 0])) (upd (upd (upd G7 l (.lst [x, .bl (!decide (V.int st = V.int 1)), .int 0, .int 0])) l2 (.lst [.ref l])) p3 (.lst ((ys ++ [.ref c0]) ++ [.ref l]))) := Same.trans (same_new hl2 _) (same_new hp3 _)
  refine fin _ p3 l _ (is0 ++ [it]) (sy, 0) sA upd_same (Holds.mono sA hd) (item_made (sl _ _ upd_same) (Hold.mono s9 hx7) eT.symm (by rw [eN]; rfl)) ?_
  rw [total_app (is0 ++ [it]), total_one, eS]
  exact Nat.le_refl _
end
end S7


set_option Elab.async false
set_option maxRecDepth 100000
set_option maxHeartbeats 4000000
/-! k72, must_saying -/
/-! k11: what is wrong with a saying; must_test, must_part, must_saying -/
namespace S7
open PySem L2 Fly PyProof.Rows
inductive Flt where
  | field (f : Str)
  | value (v : Int)
  | test (s : Say)
def fltOf (ws : List (Str × Nat)) (x : Str) (v : Int) : Option Flt :=
  match look ws x with
  | none => some (.field x)
  | some (_, c) => if 0 ≤ v ∧ v < (c : Int) then none else some (.value v)
def Say.own (ws : List (Str × Nat)) : Say → Option Flt
  | .is f v => fltOf ws f.1 v.1
  | .put f v => fltOf ws f.1 v.1
  | .no s => if s.isT = true then none else some (.test s)
  | _ => none
/-- the first fault, from left to right, a saying ahead of those in it -/
def Say.due (ws : List (Str × Nat)) : Say → Option Flt
  | .is f v => fltOf ws f.1 v.1
  | .put f v => fltOf ws f.1 v.1
  | .no s => if s.isT = true then s.due ws else some (.test s)
  | .again s => s.due ws
  | .either a b => (a.due ws).or (b.due ws)
  | .both a b => (a.due ws).or (b.due ws)
  | _ => none
theorem parts_due (ws : List (Str × Nat)) (s : Say) : s.parts.findSome? (Say.own ws) = s.due ws := by
  induction s with
  | no s ih =>
    rw [Say.parts, List.findSome?_cons, Say.own, Say.due, ih]
    by_cases h : s.isT = true
    · rw [if_pos h, if_pos h]
    · rw [if_neg h, if_neg h]
  | again s ih => rw [Say.parts, List.findSome?_cons, Say.due, ih]; rfl
  | either a b ia ib => rw [Say.parts, List.findSome?_cons, Say.due, List.findSome?_append, ia, ib]; rfl
  | both a b ia ib => rw [Say.parts, List.findSome?_cons, Say.due, List.findSome?_append, ia, ib]; rfl
  | is f v =>
    show List.findSome? (Say.own ws) [Say.is f v] = fltOf ws f.1 v.1
    rw [List.findSome?_cons, Say.own]
    cases fltOf ws f.1 v.1 <;> rfl
  | put f v =>
    show List.findSome? (Say.own ws) [Say.put f v] = fltOf ws f.1 v.1
    rw [List.findSome?_cons, Say.own]
    cases fltOf ws f.1 v.1 <;> rfl
  | _ => rfl
def FOut (K : PySem.W.Frag) (H : Hp) (E : XK) (cF cV cT : Addr) : Flt → Prop
  | .field x => ∀ dx H', Same H H' → H' dx = some (.xd [("field", .str x)]) → E (.ref cF) (some dx) H'
  | .value v => ∀ dx H', Same H H' → H' dx = some (.xd [("value", .int v)]) → E (.ref cV) (some dx) H'
  | .test t => ∀ dx y H', Same H H' → H' dx = some (.xd [("saying", y)]) → Hold K H' y t.da → E (.ref cT) (some dx) H'
theorem FOut.later {K : PySem.W.Frag} {H G : Hp} {E : XK} {cF cV cT : Addr} {f : Flt} (h : FOut K H E cF cV cT f) (s : Same H G) : FOut K G E cF cV cT f := by
  cases f with
  | field x => exact fun dx H' z => h dx H' (Same.trans s z)
  | value v => exact fun dx H' z => h dx H' (Same.trans s z)
  | test t => exact fun dx y H' z => h dx y H' (Same.trans s z)
def spMT (K : PySem.W.Frag) (cT : Addr) : Sp := fun vs H Q E => ∃ (x : V) (s : Say), vs = [x] ∧ Hold K H x s.da ∧ s.size ≤ 500 ∧ (s.isT = true → ∀ H', Same H H' → Q .non H') ∧ (s.isT = false → ∀ dx y H', Same H H' → H' dx = some (.xd [("saying", y)]) → Hold K H' y s.da → E (.ref cT) (some dx) H')
def spMP (K : PySem.W.Frag) (cF cV cT : Addr) : Sp := fun vs H Q E => ∃ (sp : Addr) (x : V) (ws : List (Str × Nat)) (s : Say), vs = [.ref sp, x] ∧ Hold K H (.ref sp) (speechD ws) ∧ Hold K H x s.da ∧ s.size ≤ 500 ∧ (s.own ws = none → ∀ H', Same H H' → Q .non H') ∧ (∀ f, s.own ws = some f → FOut K H E cF cV cT f)
def spMS (K : PySem.W.Frag) (cF cV cT : Addr) : Sp := fun vs H Q E => ∃ (sp : Addr) (x : V) (ws : List (Str × Nat)) (s : Say), vs = [.ref sp, x] ∧ Hold K H (.ref sp) (speechD ws) ∧ Hold K H x s.da ∧ s.size ≤ 500 ∧ (s.due ws = none → ∀ H', Same H H' → Q .non H') ∧ (∀ f, s.due ws = some f → FOut K H E cF cV cT f)
def FS : List V := [.str "is", .str "put"]
def Say.isF : Say → Bool
  | .is _ _ => true | .put _ _ => true
  | _ => false
theorem in_FS (s : Say) : inV (.str s.sort) FS = s.isF := by cases s <;> kernel_rfl
theorem fld_of {ws : List (Str × Nat)} {x : Str} {v : Int} {K : PySem.W.Frag} {H : Hp} {E : XK} {cF cV cT : Addr} {good : Nat → Prop} (h1 : fltOf ws x v = none → ∀ i, good i) (h2 : ∀ f, fltOf ws x v = some f → FOut K H E cF cV cT f) : Outs ws x v cF cV H E good where
  no := fun l => h2 (.field x) (by unfold fltOf; rw [l])
  bad := fun i c l n => h2 (.value v) (by unfold fltOf; rw [l]; exact if_neg n)
  ok := fun i c l g => h1 (by unfold fltOf; rw [l]; exact if_pos g) i
def Say.isNo : Say → Bool
  | .no _ => true
  | _ => false
theorem is_No (s : Say) : decide (V.str s.sort = V.str "not") = s.isNo := by cases s <;> kernel_rfl
theorem fld_open {K : PySem.W.Frag} {H : Hp} {x : V} {s : Say} (ws : List (Str × Nat)) (h : Hold K H x s.da) (hf : s.isF = true) : ∃ (a : Addr) (fx : Fld) (vx : Num), x = .ref a ∧ SqT K H a [.str s.sort, .str fx.1, .int vx.1] ∧ s.own ws = fltOf ws fx.1 vx.1 ∧ s.isNo = false := by
  cases s
  case is f v =>
    obtain ⟨a, ys, e, ha, hd⟩ := Hold.tupI h
    cases hd with
    | cons h1 r1 => cases r1 with
      | cons h2 r2 => cases r2 with
        | cons h3 r3 =>
          cases r3; cases h1.flatI; cases h2.flatI; cases h3.flatI
          exact ⟨a, f, v, e, ha, rfl, rfl⟩
  case put f v =>
    obtain ⟨a, ys, e, ha, hd⟩ := Hold.tupI h
    cases hd with
    | cons h1 r1 => cases r1 with
      | cons h2 r2 => cases r2 with
        | cons h3 r3 =>
          cases r3; cases h1.flatI; cases h2.flatI; cases h3.flatI
          exact ⟨a, f, v, e, ha, rfl, rfl⟩
  all_goals cases hf
theorem no_open {K : PySem.W.Frag} {H : Hp} {x : V} {s : Say} (h : Hold K H x s.da) (hf : s.isNo = true) : ∃ (a : Addr) (y : V) (t : Say), s = .no t ∧ x = .ref a ∧ SqT K H a [.str s.sort, y] ∧ Hold K H y t.da := by
  cases s
  case no t =>
    obtain ⟨a, ys, e, ha, hd⟩ := Hold.tupI h
    cases hd with
    | cons h1 r1 => cases r1 with
      | cons h2 r2 => cases r2; cases h1.flatI; exact ⟨a, _, t, rfl, e, ha, h2⟩
  all_goals cases hf
theorem own_none {ws : List (Str × Nat)} {s : Say} (h1 : s.isF = false) (h2 : s.isNo = false) : s.own ws = none := by cases s <;> first | rfl | exact absurd h1 (by decide) | exact absurd h2 (by decide) | (simp [Say.isF] at h1; done) | (simp [Say.isNo] at h2; done)
section
variable {P : Program} {w : World} {K : PySem.W.Frag} {mg : Str → Option Value} {base : Heap} {cF cV cT : Addr}
theorem scMT : FnScope ["saying"] ["saying"] (defScope sMTest) := ⟨rfl, rfl, rfl, by decide +kernel, rfl, by decide +kernel, by decide +kernel⟩
theorem ok_mtest {f fT fI : Addr} {fd fdT fdI : FuncData} (F : Fun K "must_test" "must_test" sMTest f fd) (c : XCls K cT) (n : NoAttr K cT "saying") (hi : PySem.W.findIn K (.ref cT) "__init__" = some (some (.ref fI))) (lf : ∃ oI, K.lookup fI = some oI ∧ oI.cls = .type "function")
    (GI : FnOk P w K mg base CX0 1 fI fdI ["self", "saying"] (spInit K cT "saying" fun _ => True)) (bI : Binds K fdI ["self", "saying"] []) (mC : mg "NoTest" = some (.ref cT))
    (GT : FnOk P w K mg base CX0 3 fT fdT ["saying"] (spIsT K)) (bT : Binds K fdT ["saying"] []) (kT : PySem.W.keepIn K (.ref fT) = true) (mT : mg "is_test" = some (.ref fT)) : FnOk P w K mg base (CXx P w) 4 f fd ["saying"] (spMT K cT) := by
  refine F.okX scMT (fun vs H Q E h => ?_) (fun cdv A outer s H vs Q E hr h => ?_)
  · obtain ⟨x, sy, rfl, _⟩ := h
    rfl
  obtain ⟨x, sy, rfl, hx, h500, q1, q2⟩ := h
  refine ⟨_, pss_one (ps_if (pt_not (pt_val (pe_call GT hr rfl mT kT bT .nil pass0 (pa_cons (pv 0) pa_nil))))
    (pss_one (ps_raise c (pe_makeX c hi lf GI (hr.mono (by decide)) rfl mC bI (pa_cons (pv 0) pa_nil)))) pss_nil), ?_⟩
  refine ⟨_, rfl, x, sy, rfl, hx, h500, fun G1 s1 => ⟨_, rfl, ?_⟩⟩
  cases ht : sy.isT with
  | true => exact iteF (q1 ht G1 s1)
  | false =>
    refine iteT ⟨_, rfl, (by show 1 ≤ 100; decide), fun e he => ⟨e, x, rfl, c, n, trivial, upd_same, fun dx hd ne => ⟨rfl, e, some dx, rfl, upd_same, Same.free s1 he, ?_⟩⟩⟩
    obtain ⟨z1, z2, _⟩ := del_same3 (o2 := .xd [("saying", x)]) (o3 := XNew e cT (some dx)) he hd ne
    exact q2 ht dx x _ (Same.trans s1 z1) z2 (Hold.mono (Same.trans s1 z1) hx)
theorem scMP : FnScope ["speech", "part"] ["speech", "part"] (defScope sMPart) := ⟨rfl, rfl, rfl, by decide +kernel, rfl, by decide +kernel, by decide +kernel⟩
theorem ok_mpart {f fP fT aF : Addr} {fd fdP fdT : FuncData} (F : Fun K "must_part" "must_part" sMPart f fd)
    (GP : FnOk P w K mg base (CXx P w) 4 fP fdP ["speech", "field", "value"] (spPlace K cF cV)) (bP : Binds K fdP ["speech", "field", "value"] []) (kP : PySem.W.keepIn K (.ref fP) = true) (mP : mg "place_of" = some (.ref fP))
    (GT : FnOk P w K mg base (CXx P w) 4 fT fdT ["saying"] (spMT K cT)) (bT : Binds K fdT ["saying"] []) (kT : PySem.W.keepIn K (.ref fT) = true) (mT : mg "must_test" = some (.ref fT))
    (mF : mg "FIELD_SORTS" = some (.ref aF)) (tF : ∀ H : Hp, SqT K H aF FS) : FnOk P w K mg base (CXx P w) 5 f fd ["speech", "part"] (spMP K cF cV cT) := by
  refine F.okX scMP (fun vs H Q E h => ?_) (fun cdv A outer s H vs Q E hr h => ?_)
  · obtain ⟨sp, x, ws, sy, rfl, _⟩ := h
    rfl
  obtain ⟨sp, x, ws, sy, rfl, hs, hx, h500, q1, q2⟩ := h
  refine ⟨_, pss_cons (ps_if (pt_cmpR op_in_seq (pe_ix ix_tup (pv 1) pe_int (fun _ _ => rfl)) (pe_glob (v := .ref aF) rfl mF rfl) (by with_unfolding_all rfl))
      (pss_one (ps_expr (pe_call GP hr rfl mP kP bP .nil passX (pa_cons (pv 0) (pa_cons (pe_ix ix_tup (pv 1) pe_int (fun _ _ => rfl)) (pa_cons (pe_ix ix_tup (pv 1) pe_int (fun _ _ => rfl)) pa_nil)))))) pss_nil)
    (pss_one (ps_if (pt_cmpR op_eq (pe_ix ix_tup (pv 1) pe_int (fun _ _ => rfl)) pe_str (nomark _))
      (pss_one (ps_expr (pe_call GT hr rfl mT kT bT .nil passX (pa_cons (pe_ix ix_tup (pv 1) pe_int (fun _ _ => rfl)) pa_nil)))) pss_nil)), ?_⟩
  obtain ⟨a, xs, rfl, ha, hk⟩ := da_open hx
  refine ⟨_, rfl, a, _, _, _, rfl, rfl, ha, at0' _ _, aF, FS, rfl, .inr (tF _), rfl, by decide +kernel, _, rfl, ?_⟩
  show if inV (.str sy.sort) FS = true then _ else _
  rw [in_FS]
  refine ite2 (fun c => ?_) (fun c => ?_)
  · obtain ⟨b, fx, vx, e, hb, ho, hn⟩ := fld_open ws hx c
    cases e
    refine ⟨_, rfl, _, rfl, a, _, _, _, rfl, rfl, hb, rfl, _, rfl, a, _, _, _, rfl, rfl, hb, rfl, sp, ws, fx.1, vx.1, rfl, hs, vx.2, fx.2, fld_of (K := K) (cT := cT) (fun z i H' s' => ?_) (fun f z => ?_)⟩
    · refine ⟨_, rfl, a, _, _, _, rfl, rfl, hb.same s', rfl, rfl, _, rfl, ?_⟩
      show if decide (V.str sy.sort = V.str "not") = true then _ else _
      rw [is_No, hn]
      exact q1 (ho.trans z) H' s'
    · exact q2 f (ho.trans z)
  · refine ⟨_, rfl, a, _, _, _, rfl, rfl, ha, at0' _ _, rfl, _, rfl, ?_⟩
    show if decide (V.str sy.sort = V.str "not") = true then _ else _
    rw [is_No]
    refine ite2 (fun d => ?_) (fun d => ?_)
    · obtain ⟨b, y, t, rfl, e, hb, hy⟩ := no_open hx d
      cases e
      refine ⟨_, rfl, a, _, _, _, rfl, rfl, hb, rfl, y, t, rfl, hy, ?_, fun z H' s' => ?_, fun z dx y' H' s' hd hh => ?_⟩
      · have : t.size + 1 ≤ 500 := h500
        omega
      · exact q1 (if_pos z) H' s'
      · exact q2 (.test t) (if_neg (by rw [z]; decide)) dx y' H' s' hd hh
    · exact q1 (own_none (by simpa using c) (by simpa using d)) H (Same.refl _)
theorem scMS : FnScope ["speech", "saying", "part"] ["speech", "saying"] (defScope sMSay) := ⟨rfl, rfl, rfl, by decide +kernel, rfl, by decide +kernel, by decide +kernel⟩
theorem mem_parts_size {s p : Say} (h : p ∈ s.parts) : p.size ≤ s.size := by
  induction s with
  | no s ih =>
    rcases List.mem_cons.mp h with e | e
    · rw [e]; exact Nat.le_refl _
    · have := ih e; show p.size ≤ s.size + 1; omega
  | again s ih =>
    rcases List.mem_cons.mp h with e | e
    · rw [e]; exact Nat.le_refl _
    · have := ih e; show p.size ≤ s.size + 1; omega
  | either a b ia ib =>
    rcases List.mem_cons.mp h with e | e
    · rw [e]; exact Nat.le_refl _
    · show p.size ≤ a.size + b.size + 1
      rcases List.mem_append.mp e with z | z
      · have := ia z; omega
      · have := ib z; omega
  | both a b ia ib =>
    rcases List.mem_cons.mp h with e | e
    · rw [e]; exact Nat.le_refl _
    · show p.size ≤ a.size + b.size + 1
      rcases List.mem_append.mp e with z | z
      · have := ia z; omega
      · have := ib z; omega
  | _ => rw [List.mem_singleton.mp h]; exact Nat.le_refl _
theorem find_at {α β : Type} {f : α → Option β} {l : List α} {i : Nat} {x : α} {r : Option β} (hx : l[i]? = some x) (h : (l.drop i).findSome? f = r) : (∀ y, f x = some y → r = some y) ∧ (f x = none → (l.drop (i + 1)).findSome? f = r) := by
  have hi : i < l.length := (List.getElem?_eq_some_iff.mp hx).1
  have e : l.drop i = x :: l.drop (i + 1) := by
    rw [List.drop_eq_getElem_cons hi, (List.getElem?_eq_some_iff.mp hx).2]
  rw [e, List.findSome?_cons] at h
  constructor
  · intro y q; rw [q] at h; exact h.symm
  · intro q; rw [q] at h; exact h
theorem ok_msay {f fA fP : Addr} {fd fdA fdP : FuncData} (F : Fun K "must_saying" "must_saying" sMSay f fd)
    (GA : FnOk P w K mg base CX0 2 fA fdA ["saying"] (spParts K)) (bA : Binds K fdA ["saying"] []) (kA : PySem.W.keepIn K (.ref fA) = true) (mA : mg "parts_of" = some (.ref fA))
    (GP : FnOk P w K mg base (CXx P w) 5 fP fdP ["speech", "part"] (spMP K cF cV cT)) (bP : Binds K fdP ["speech", "part"] []) (kP : PySem.W.keepIn K (.ref fP) = true) (mP : mg "must_part" = some (.ref fP)) : FnOk P w K mg base (CXx P w) 6 f fd ["speech", "saying"] (spMS K cF cV cT) := by
  refine F.okX scMS (fun vs H Q E h => ?_) (fun cdv A outer s H vs Q E hr h => ?_)
  · obtain ⟨sp, x, ws, sy, rfl, _⟩ := h
    rfl
  obtain ⟨sp, x, ws, sy, rfl, hs, hx, h500, q1, q2⟩ := h
  refine ⟨_, pss_one (ps_for PassesOwn.leaving rfl (pi_list (pe_call GA (hr.mono (by decide)) rfl mA kA bA .nil pass0 (pa_cons (pv 1) pa_nil))) (pg_name (i := 2) scMS.nd rfl (Or.inl rfl))
    (pss_one (ps_expr (pe_call GP hr rfl mP kP bP .nil passX (pa_cons (pv 0) (pa_cons (pv 2) pa_nil)))))), ?_⟩
  refine ⟨_, rfl, x, sy, rfl, hx, h500, fun r xs G1 s1 gr hd => ⟨r, rfl, ⟨_, SqL.of gr⟩, for_list (K := K) (a := r) (xs := xs) (fun i σ G => ∃ v2 : Option V, σ = [some (.ref sp), some x, v2] ∧ Same G1 G ∧ (sy.parts.drop i).findSome? (Say.own ws) = sy.due ws)
    ⟨none, rfl, Same.refl _, parts_due ws sy⟩ (fun i σ G _ ⟨_, _, sG, _⟩ => SqL.of (sG _ _ gr)) ?_ ?_⟩⟩
  · rintro i y σ G hy ⟨v2, rfl, sG, lk⟩
    obtain ⟨p, ep, hp⟩ := hd.getm hy
    obtain ⟨n1, n2⟩ := find_at ep lk
    have pz := mem_parts_size (List.mem_of_getElem? ep)
    refine ⟨_, rfl, _, rfl, sp, y, ws, p, rfl, Hold.mono (Same.trans s1 sG) hs, Hold.mono sG hp, by omega, fun z H' s' => ?_, fun f z => ?_⟩
    · exact ⟨_, rfl, Same.trans sG s', n2 z⟩
    · exact (q2 f (n1 f z)).later (Same.trans s1 sG)
  · rintro σ G ⟨v2, rfl, sG, lk⟩
    have lx : xs.length = sy.parts.length := by rw [hd.length, List.length_map]
    rw [lx, List.drop_length] at lk
    exact q1 lk.symm G (Same.trans s1 sG)
end
end S7


set_option Elab.async false
set_option maxRecDepth 100000
set_option maxHeartbeats 4000000
/-! k72, a saying is drawn -/
/-! k11: a saying is drawn -/
namespace S7
open PySem L2
def spSaying (K : PySem.W.Frag) : Sp := fun vs H Q _ => ∃ (c sp : Addr) (m : Int) (xs : List V) (ws : List (Str × Nat)), vs = [.ref c, .ref sp, .int m] ∧ SqL K H c xs ∧ (∀ x ∈ xs, ∃ n, x = V.int n) ∧ xs.length ≤ 22 ∧ Hold K H (.ref sp) (speechD ws) ∧ SpeechOk ws ∧
  ∀ (y : V) (s : Say) (H' : Hp), Same H H' → Hold K H' y s.da → s.size ≤ 50 → Q y H'
section
variable {P : Program} {w : World} {K : PySem.W.Frag} {mg : Str → Option Value} {base : Heap}
theorem scSa : FnScope ["_law_cells", "_law_speech_here", "_law_most", "_law_row", "_law_cell_here"] ["_law_cells", "_law_speech_here", "_law_most"] (defScope sSaying) := ⟨rfl, rfl, rfl, by decide +kernel, rfl, by decide +kernel, by decide +kernel⟩
theorem ok_saying {f fR fJ : Addr} {fd fdR fdJ : FuncData} (F : Fun K "_law_saying" "_law_saying" sSaying f fd)
    (GR : FnOk P w K mg base CX0 3 fR fdR ["_law_row", "_law_cell_here", "_law_speech_here", "_law_most"] (spGrown K)) (bR : Binds K fdR ["_law_row", "_law_cell_here", "_law_speech_here", "_law_most"] []) (kR : PySem.W.keepIn K (.ref fR) = true) (mR : mg "_law_grown" = some (.ref fR))
    (GJ : FnOk P w K mg base CX0 1 fJ fdJ ["_law_row", "_law_word"] (spJoined K)) (bJ : Binds K fdJ ["_law_row", "_law_word"] []) (kJ : PySem.W.keepIn K (.ref fJ) = true) (mJ : mg "_law_joined" = some (.ref fJ))
    (ml : mg "len" = none) : FnOk P w K mg base CX0 4 f fd ["_law_cells", "_law_speech_here", "_law_most"] (spSaying K) := by
  refine F.ok scSa (fun vs H Q E h => ?_) (fun cdv A outer s H vs Q E hr h => ?_)
  · obtain ⟨c, sp, m, xs, ws, rfl, _⟩ := h
    rfl
  obtain ⟨c, sp, most, cs, ws, rfl, hS, hI, l22, hsp, sk, q⟩ := h
  have hr1 : Room 1 _ := hr.mono (by decide)
  refine ⟨_, pss_cons (ps_set (i := 3) scSa.nd rfl (Or.inl rfl) (pe_lst (pa_cons (pe_lst (pa_cons (pe_tup (pc_c pe_str pa_nil)) (pc_c pe_bl (pc_c pe_int (pc_c pe_int pa_nil))))) pa_nil)))
    (pss_cons (ps_for PassesOwn.never rfl (pi_list (pv 0)) (pg_name (i := 4) scSa.nd rfl (Or.inl rfl))
      (pss_one (ps_set (i := 3) scSa.nd rfl (Or.inl rfl) (pe_call GR hr rfl mR kR bR .nil pass0 (pa_cons (pv 3) (pa_cons (pv 4) (pa_cons (pv 1) (pa_cons (pv 2) pa_nil))))))))
    (pss_cons (ps_while PassesOwn.never (pt_cmpR op_gt (pe_callB call_len_seq rfl ml PySem.boot_len (pa_cons (pv 3) pa_nil)) pe_int (nomark _))
      (pss_one (ps_set (i := 3) scSa.nd rfl (Or.inl rfl) (pe_call GJ hr1 rfl mJ kJ bJ .nil pass0 (pa_cons (pv 3) (pa_cons (pe_ix ix_list (pe_lst (pc_c pe_str (pc_c pe_str pa_nil))) (pe_op op_mod (pe_op op_mod (pe_callB call_len_seq rfl ml PySem.boot_len (pa_cons (pv 3) pa_nil)) pe_int) pe_int) (fun _ _ => rfl)) pa_nil))))))
    (pss_one (ps_ret (pe_ix ix_list (pe_ix ix_list (pv 3) pe_int (fun _ _ => rfl)) pe_int (fun _ _ => rfl)))))), ?_⟩
  refine ⟨(by show 1 ≤ sizeLine; decide), fun t ht => ⟨(by show 4 ≤ sizeLine; decide), fun l hl => ⟨(by show 1 ≤ sizeLine; decide), fun l2 hl2 => ?_⟩⟩⟩
  generalize hG2 : upd (upd (upd H t (.tup [.str "all"])) l (.lst [.ref t, .bl true, .int 0, .int 0])) l2 (.lst [.ref l]) = G2
  have s2 : Same H G2 := by
    rw [← hG2]
    exact Same.trans (Same.trans (same_new ht _) (same_new hl _)) (same_new hl2 _)
  have g2 : G2 l2 = some (.lst [.ref l]) := by rw [← hG2, upd_same]
  have hd2 : Holds K G2 [V.ref l] ((([] : List Item) ++ [(Say.every, 0)]).map itemD) := by
    rw [← hG2]
    exact .one (item_made (i := (Say.every, 0)) (same_new hl2 _ _ _ upd_same) (.tup (SqT.of (same_new hl2 _ _ _ (same_new hl _ _ _ upd_same))) (.cons (.flat rfl) .nil)) rfl rfl)
  refine ⟨_, rfl, c, rfl, ⟨_, s2.seq hS⟩, for_list (K := K) (a := c) (xs := cs) (fun i σ G => ∃ (r : Addr) (xs : List V) (js : List Item) (j : Item) (v4 : Option V), σ = [some (.ref c), some (.ref sp), some (.int most), some (.ref r), v4] ∧ Same G2 G ∧ G r = some (.lst xs) ∧ Holds K G xs ((js ++ [j]).map itemD) ∧ total (js ++ [j]) ≤ 1 + i)
    ⟨l2, _, [], (Say.every, 0), none, rfl, Same.refl _, g2, hd2, Nat.le_refl _⟩ (fun i σ G _ z => by obtain ⟨_, _, _, _, _, _, sG, _⟩ := z; exact (Same.trans s2 sG).seq hS) ?_ ?_⟩
  · rintro i x σ G hx ⟨r, xs, js, j, v4, rfl, sG, gr, hd, tt⟩
    obtain ⟨n, rfl⟩ := hI x (List.mem_of_getElem? hx)
    have hi : i < cs.length := (List.getElem?_eq_some_iff.mp hx).1
    refine ⟨_, rfl, _, rfl, _, rfl, _, rfl, r, sp, n, most, xs, js, j, ws, rfl, gr, hd, by omega, Hold.mono (Same.trans s2 sG) hsp, sk, fun r' xs' js' j' G' s' g' h' t' => ?_⟩
    exact ⟨r', xs', js', j', _, rfl, Same.trans sG s', g', h', by omega⟩
  · rintro σ G ⟨r, xs, js, j, v4, rfl, sG, gr, hd, tt⟩
    have lj : js.length + 1 ≤ total (js ++ [j]) := by
      have z := total_ge (js ++ [j])
      rw [List.length_append, List.length_singleton] at z
      exact z
    refine ⟨fun m σ G => ∃ (r : Addr) (xs : List V) (js : List Item) (j : Item), σ = [some (.ref c), some (.ref sp), some (.int most), some (.ref r), v4] ∧ Same G2 G ∧ G r = some (.lst xs) ∧ Holds K G xs ((js ++ [j]).map itemD) ∧ js.length + total (js ++ [j]) ≤ 50 ∧ m = js.length,
      ⟨_, r, xs, js, j, rfl, sG, gr, hd, by omega, rfl⟩, ?_⟩
    clear lj tt hd gr sG
    rintro m σ G ⟨r, xs, js, j, rfl, sG, gr, hd, tt, rfl⟩
    have lx : xs.length = js.length + 1 := by rw [hd.length, List.length_map, List.length_append, List.length_singleton]
    refine ⟨_, rfl, r, _, rfl, .inl (SqL.of gr), _, _, rfl, rfl, _, rfl, ?_⟩
    refine ite2 (fun cc => ?_) (fun cc => ?_)
    · have c' : (1 : Int) < ((xs.length : Nat) : Int) := of_decide_eq_true cc
      rcases List.eq_nil_or_concat js with e | ⟨ks, i1, e⟩
      · rw [e] at lx
        rw [lx] at c'
        exact absurd c' (by decide)
      rw [List.concat_eq_append] at e
      subst e
      have e2 : (ks ++ [i1]) ++ [j] = ks ++ [i1, j] := by simp
      have t1 : total ((ks ++ [i1]) ++ [j]) = total ks + i1.1.size + j.1.size := by rw [total_app, total_app, total_one, total_one]
      have l1 : (ks ++ [i1]).length = ks.length + 1 := by rw [List.length_append, List.length_singleton]
      rw [t1, l1] at tt
      refine ⟨fun σ' G' => ∃ (r : Addr) (xs : List V) (js : List Item) (j : Item), σ' = [some (.ref c), some (.ref sp), some (.int most), some (.ref r), v4] ∧ Same G2 G' ∧ G' r = some (.lst xs) ∧ Holds K G' xs ((js ++ [j]).map itemD) ∧ js.length + total (js ++ [j]) ≤ 50 ∧ js.length < (ks ++ [i1]).length, fun σ' G' z => ?_, ?_⟩
      · obtain ⟨r, xs, js, j, z1, z0, z2, z3, z4, z5⟩ := z
        exact ⟨_, z5, r, xs, js, j, z1, z0, z2, z3, z4, rfl⟩
      · refine ⟨_, rfl, (by show 2 ≤ sizeLine; decide), fun lw hlw => ?_⟩
        have sw := same_new hlw (.lst [.str "either", .str "then"])
        have m0 := emod_rng (((xs.length : Nat) : Int) % 3) (m := 2) (by decide)
        obtain ⟨wd, hw, ew⟩ := menuS (ns := ["either", "then"]) m0.1 m0.2
        have hw' : wd = "either" ∨ wd = "then" := by
          rcases List.mem_cons.mp hw with z | z
          · exact .inl z
          · exact .inr (List.mem_singleton.mp z)
        refine ⟨_, rfl, r, _, rfl, .inl (SqL.of (sw _ _ gr)), _, _, rfl, rfl, (by show (0 : Int) < 3; decide), _, _, rfl, rfl, (by show (0 : Int) < 2; decide), lw, _, _, _, rfl, rfl, SqL.of upd_same, ew, ?_⟩
        refine ⟨r, wd, _, ks, i1, j, rfl, hw', sw _ _ gr, (by rw [← e2]; exact Holds.mono sw hd), by omega, fun r' xs' sy d G' s' g' h' e' => ?_⟩
        refine ⟨r', xs', ks, (sy, d), rfl, Same.trans sG (Same.trans sw s'), g', h', ?_, by omega⟩
        rw [total_app, total_one]
        show ks.length + (total ks + sy.size) ≤ 50
        omega
    · have c' : ¬ (1 : Int) < ((xs.length : Nat) : Int) := fun z => cc (decide_eq_true z)
      have e : js = [] := List.length_eq_zero_iff.mp (by omega)
      subst e
      obtain ⟨ys, x0, rfl, hy, hx0⟩ := holds_snoc (ds := []) hd
      cases hy
      obtain ⟨c0, y0, rfl, hc0, hy0⟩ := item_open hx0
      have sj : j.1.size ≤ 50 := by
        rw [total_app, total_one] at tt
        omega
      exact ⟨_, rfl, r, _, _, _, rfl, rfl, SqL.of gr, rfl, c0, _, _, _, rfl, rfl, hc0, rfl, q y0 j.1 G (Same.trans s2 sG) hy0 sj⟩
end
end S7


set_option Elab.async false
set_option maxRecDepth 100000
set_option maxHeartbeats 4000000
/-! k72, the law's test of a test -/
/-! k11: the law's own test of a test -/
namespace S7
open PySem L2
abbrev noV : List V := [.str "put", .str "again", .str "note"]
abbrev yesV : List V := [.str "is", .str "all", .str "none"]
def Say.no1 : Say → Bool
  | .put _ _ => true | .again _ => true | .note => true
  | _ => false
def Say.yes1 : Say → Bool
  | .is _ _ => true | .every => true | .nought => true
  | _ => false
theorem in_no1 (s : Say) : inV (.str s.sort) noV = s.no1 := by cases s <;> kernel_rfl
theorem in_yes1 (s : Say) : inV (.str s.sort) yesV = s.yes1 := by cases s <;> kernel_rfl
theorem no1_isT {s : Say} (h : s.no1 = true) : s.isT = false := by cases s <;> first | rfl | cases h
theorem yes1_isT {s : Say} (h : s.yes1 = true) : s.isT = true := by cases s <;> first | rfl | cases h
theorem kid_isT {s : Say} (h1 : s.no1 = false) (h2 : s.yes1 = false) : s.hasK = true ∧ s.isT = s.kids.all Say.isT := by
  cases s <;> first | (simp [Say.no1] at h1; done) | (simp [Say.yes1] at h2; done) | (refine ⟨rfl, ?_⟩; simp [Say.isT, Say.kids])
theorem kid_size {s k : Say} (h : k ∈ s.kids) : k.size < s.size := by
  cases s <;> simp [Say.kids] at h <;> simp only [Say.size]
  · subst h; omega
  · subst h; omega
  · rcases h with h | h <;> subst h <;> omega
  · rcases h with h | h <;> subst h <;> omega
theorem kids_le (s : Say) : s.kids.length ≤ 2 := by cases s <;> simp [Say.kids]
theorem filt_all (l : List Say) : decide (V.int (((l.filter fun k => !k.isT).length : Nat) : Int) = V.int 0) = l.all Say.isT := by
  rw [Bool.eq_iff_iff, decide_eq_true_iff, List.all_eq_true]
  constructor
  · intro h k hk
    have z : ((l.filter fun k => !k.isT).length : Int) = 0 := by injection h
    have z' : l.filter (fun k => !k.isT) = [] := List.length_eq_zero_iff.mp (by omega)
    have := List.filter_eq_nil_iff.mp z' k hk
    simpa using this
  · intro h
    have z : l.filter (fun k => !k.isT) = [] := List.filter_eq_nil_iff.mpr fun k hk => by rw [h k hk]; decide
    rw [z]; rfl
def spLT (K : PySem.W.Frag) (n : Nat) : Sp := fun vs H Q _ => ∃ (x : V) (s : Say), vs = [x] ∧ Hold K H x s.da ∧ s.size ≤ n ∧ ∀ H' : Hp, Same H H' → Q (.bl s.isT) H'
def scIT : Scope := { kind := .function, names := [(".0", .local), ("_law_one", .local), ("_law_is_test", .globalImplicit)], isGenerator := false, isCoroutine := false, more := [] }
theorem cut_kids {s : Say} {xs : List V} : ¬ (HT.sIx (V.str s.sort :: xs).length 0 (some 1) = 0 ∧ HT.sIx (V.str s.sort :: xs).length (V.str s.sort :: xs).length none = (V.str s.sort :: xs).length) := fun z => by
  have e : HT.sIx (V.str s.sort :: xs).length 0 (some 1) = 1 := by
    rw [show (some (1 : Int)) = some (((1 : Nat) : Int)) from rfl, HT.sIx_nat, List.length_cons]
    omega
  rw [e] at z
  exact absurd z.1 (by decide)
section
variable {P : Program} {w : World} {K : PySem.W.Frag} {mg : Str → Option Value} {base : Heap}
theorem csIT {X : Cx} : CScope X ["_law_one"] [] [] scIT [] := cs_plain rfl (by decide +kernel) (by decide +kernel) (by decide +kernel)
theorem scLT : FnScope ["_law_saying_here"] ["_law_saying_here"] (defScope sLIsT) := ⟨rfl, rfl, rfl, by decide +kernel, rfl, by decide +kernel, by decide +kernel⟩
theorem ok_lt {f : Addr} {fd : FuncData} (F : Fun K "_law_is_test" "_law_is_test" sLIsT f fd) (bF : Binds K fd ["_law_saying_here"] []) (kF : PySem.W.keepIn K (.ref f) = true) (mF : mg "_law_is_test" = some (.ref f)) (ml : mg "len" = none) :
    ∀ n : Nat, FnOk P w K mg base CX0 (n + 1) f fd ["_law_saying_here"] (spLT K n)
  | 0 => by
    refine F.ok scLT (fun vs H Q E h => ?_) (fun cdv A outer s H vs Q E hr h => ?_)
    · obtain ⟨x, s, rfl, _⟩ := h
      rfl
    · obtain ⟨x, sy, rfl, hx, hn, q⟩ := h
      have := size_pos sy
      omega
  | n + 1 => by
    have G := ok_lt F bF kF mF ml n
    refine F.ok scLT (fun vs H Q E h => ?_) (fun cdv A outer s H vs Q E hr h => ?_)
    · obtain ⟨x, s, rfl, _⟩ := h
      rfl
    obtain ⟨x, sy, rfl, hx, hn, q⟩ := h
    refine ⟨_, pss_cons (ps_if (pt_cmpR op_in_seq (pe_ix ix_tup (pv 0) pe_int (fun _ _ => rfl)) (pe_lst (pc_c pe_str (pc_c pe_str (pc_c pe_str pa_nil)))) (by with_unfolding_all rfl)) (pss_one (ps_ret pe_bl)) pss_nil)
      (pss_cons (ps_if (pt_cmpR op_in_seq (pe_ix ix_tup (pv 0) pe_int (fun _ _ => rfl)) (pe_lst (pc_c pe_str (pc_c pe_str (pc_c pe_str pa_nil)))) (by with_unfolding_all rfl)) (pss_one (ps_ret pe_bl)) pss_nil)
      (pss_one (ps_ret (pe_cmpR op_eq (pe_callB call_len_seq rfl ml PySem.boot_len (pa_cons (pe_comp (ns := ["_law_one"]) (ys := []) (sc := scIT) csIT rfl (pi_tup (pe_slice sl_tup (pv 0) (po_some pe_int) po_none))
        (fun C s H fp => pg_name (i := 0) (by show (["_law_one"] : List Str).Nodup; decide +kernel) rfl (Or.inl rfl)) (fun C s H fp => pts_one (pt_not (pt_val (pe_call G hr rfl mF kF bF .nil pass0 (pa_cons (pv 0) pa_nil)))))
        (fun C s H fp => pv 0)) pa_nil)) pe_int (nomark _))))), ?_⟩
    obtain ⟨a, xs, rfl, ha, hk⟩ := da_open hx
    refine ⟨_, rfl, a, _, _, _, rfl, rfl, ha, at0' _ _, (by show 3 ≤ sizeLine; decide), fun l1 hl1 => ⟨l1, noV, rfl, .inl (SqL.of upd_same), rfl, by decide +kernel, _, rfl, ?_⟩⟩
    show if inV (.str sy.sort) noV = true then _ else _
    rw [in_no1]
    have s1 := same_new hl1 (.lst noV)
    refine ite2 (fun c => ?_) (fun c => ?_)
    · have := q _ s1
      rw [no1_isT c] at this
      exact this
    have c1 : sy.no1 = false := by simpa using c
    refine ⟨_, rfl, a, _, _, _, rfl, rfl, ha.same s1, at0' _ _, (by show 3 ≤ sizeLine; decide), fun l2 hl2 => ⟨l2, yesV, rfl, .inl (SqL.of upd_same), rfl, by decide +kernel, _, rfl, ?_⟩⟩
    show if inV (.str sy.sort) yesV = true then _ else _
    rw [in_yes1]
    have s2 := Same.trans s1 (same_new hl2 (.lst yesV))
    refine ite2 (fun c => ?_) (fun c => ?_)
    · have := q _ s2
      rw [yes1_isT c] at this
      exact this
    have c2 : sy.yes1 = false := by simpa using c
    obtain ⟨hK, eT⟩ := kid_isT c1 c2
    refine ⟨_, rfl, _, rfl, a, _, rfl, ha.same s2, cut_kids, fun p hp => ?_⟩
    rw [cut1]
    have s3 := Same.trans s2 (same_new hp (.tup xs))
    have hk3 := Holds.mono s3 (hk hK)
    refine ⟨p, rfl, ⟨_, SqT.of upd_same⟩, fun D hD => ?_⟩
    generalize hG3 : upd (upd (upd H l1 (.lst noV)) l2 (.lst yesV)) p (.tup xs) = G3 at hD s3 hk3 ⊢
    have hp3 : G3 p = some (.tup xs) := by rw [← hG3, upd_same]
    have lx : xs.length = sy.kids.length := by rw [hk3.length, List.length_map]
    have l2' := kids_le sy
    refine comp_tup (K := K) (a := p) (xs := xs) (fun i ys G2 => Same G3 G2 ∧ G2 D = some (.lst ys) ∧ ys.length = ((sy.kids.take i).filter fun k => !k.isT).length) ⟨same_new hD _, upd_same, rfl⟩ (fun i ys G2 z => z.2.1) (fun i ys G2 _ z => SqT.of (z.1 _ _ hp3)) ?_ ?_
    · rintro i x' ys G2 hx' ⟨sG, d2, e2⟩
      obtain ⟨k, ek, hk'⟩ := hk3.getm hx'
      have km : k ∈ sy.kids := List.mem_of_getElem? ek
      have kz := kid_size km
      have yl : ys.length ≤ 2 := by
        rw [e2]
        exact Nat.le_trans (List.length_filter_le _ _) (by rw [List.length_take]; omega)
      have e3 : ((sy.kids.take (i + 1)).filter fun k => !k.isT).length = ys.length + (if (!k.isT) = true then 1 else 0) := by
        rw [List.take_add_one, ek, List.filter_append, List.length_append, ← e2]
        cases q : k.isT <;> simp [q]
      refine ⟨small1000 (by omega), ⟨[some _], rfl, rfl⟩, ?_⟩
      refine ⟨_, rfl, x', k, rfl, Hold.mono sG hk', by omega, fun G4 s4 => ⟨_, rfl, ?_⟩⟩
      refine ite2 (fun c => ?_) (fun c => ?_)
      · refine ⟨_, rfl, s4 _ _ d2, Same.put (Same.trans sG s4) hD _, upd_same, ?_⟩
        rw [e3, if_pos c, List.length_append]
        rfl
      · refine ⟨Same.trans sG s4, s4 _ _ d2, ?_⟩
        rw [e3, if_neg c]
        rfl
    · rintro ys G2 ⟨sG, d2, e2⟩
      refine ⟨D, ys, rfl, .inl (SqL.of d2), rfl, ?_⟩
      rw [e2, lx, List.take_length, filt_all, ← eT]
      exact q G2 (Same.trans s3 sG)
end
end S7


set_option Elab.async false
set_option maxRecDepth 100000
set_option maxHeartbeats 4000000
/-! k72, what is wrong with a saying -/
/-! k11: what the law finds wrong with a saying -/
namespace L2
open PySem
theorem orS {c d : Bool} {A B T : Prop} (hT : (if d = true then A else B) → T) (h : if (c || d) = true then A else B) : if c = true then (if true = true then A else B) else T := by
  cases c with
  | true => exact iteT h
  | false => exact iteF (hT h)
end L2
namespace S7
open PySem L2
/-- what is told of a fault, as a list at r -/
def DueAt (K : PySem.W.Frag) (H : Hp) (r : Addr) : Option Flt → Prop
  | none => H r = some (.lst [])
  | some (.field f) => H r = some (.lst [.str "field", .str f])
  | some (.value v) => H r = some (.lst [.str "value", .int v])
  | some (.test t) => ∃ y, H r = some (.lst [.str "test", y]) ∧ Hold K H y t.da
theorem DueAt.mono {K : PySem.W.Frag} {H G : Hp} {r : Addr} {o : Option Flt} (h : DueAt K H r o) (s : Same H G) : DueAt K G r o := by
  cases o with
  | none => exact s _ _ h
  | some f =>
    cases f with
    | field f => exact s _ _ h
    | value v => exact s _ _ h
    | test t =>
      obtain ⟨y, h1, h2⟩ := h
      exact ⟨y, s _ _ h1, Hold.mono s h2⟩
/-- it is empty just where nothing is due -/
theorem DueAt.len {K : PySem.W.Frag} {H : Hp} {r : Addr} {o : Option Flt} (h : DueAt K H r o) : ∃ xs, H r = some (.lst xs) ∧ (o = none → xs = []) ∧ (o ≠ none → xs.length = 2) := by
  cases o with
  | none => exact ⟨_, h, fun _ => rfl, fun z => absurd rfl z⟩
  | some f =>
    cases f with
    | field f => exact ⟨_, h, (fun z => by cases z), fun _ => rfl⟩
    | value v => exact ⟨_, h, (fun z => by cases z), fun _ => rfl⟩
    | test t =>
      obtain ⟨y, h1, h2⟩ := h
      exact ⟨_, h1, (fun z => by cases z), fun _ => rfl⟩
def spDue (K : PySem.W.Frag) (n : Nat) : Sp := fun vs H Q _ => ∃ (sp : Addr) (x : V) (ws : List (Str × Nat)) (s : Say), vs = [.ref sp, x] ∧ Hold K H (.ref sp) (speechD ws) ∧ ws.length ≤ 3 ∧ Hold K H x s.da ∧ s.size ≤ n ∧ ∀ (r : Addr) (H' : Hp), Same H H' → DueAt K H' r (s.due ws) → Q (.ref r) H'
def cntV (ws : List (Str × Nat)) (x : Str) : List V := (ws.filter fun w => decide (w.1 = x)).map fun w => V.int (w.2 : Int)
theorem cnt_none : ∀ {ws : List (Str × Nat)} {x : Str}, look ws x = none → cntV ws x = []
  | [], _, _ => rfl
  | w :: r, x, h => by
    have h' : (if w.1 = x then some (0, w.2) else (look r x).map fun p => (p.1 + 1, p.2)) = none := h
    by_cases q : w.1 = x
    · rw [if_pos q] at h'; cases h'
    · rw [if_neg q] at h'
      have z : look r x = none := by simpa using h'
      unfold cntV
      rw [List.filter_cons_of_neg (by simpa using q)]
      exact cnt_none z
theorem cnt_some : ∀ {ws : List (Str × Nat)} {x : Str} {i c : Nat}, look ws x = some (i, c) → ∃ r, cntV ws x = .int (c : Int) :: r
  | [], _, _, _, h => by cases h
  | w :: r, x, i, c, h => by
    have h' : (if w.1 = x then some (0, w.2) else (look r x).map fun p => (p.1 + 1, p.2)) = some (i, c) := h
    by_cases q : w.1 = x
    · rw [if_pos q] at h'
      cases h'
      unfold cntV
      rw [List.filter_cons_of_pos (by simpa using q)]
      exact ⟨_, rfl⟩
    · rw [if_neg q] at h'
      obtain ⟨⟨j, d⟩, e1, e2⟩ := Option.map_eq_some_iff.mp h'
      cases e2
      unfold cntV
      rw [List.filter_cons_of_neg (by simpa using q)]
      exact cnt_some e1
theorem cnt_take {ws : List (Str × Nat)} {x : Str} {i : Nat} {w : Str × Nat} (h : ws[i]? = some w) : cntV (ws.take (i + 1)) x = cntV (ws.take i) x ++ (if w.1 = x then [.int (w.2 : Int)] else []) := by
  unfold cntV
  rw [List.take_add_one, h, List.filter_append, List.map_append]
  congr 1
  by_cases q : w.1 = x
  · rw [if_pos q]; simp [q]
  · rw [if_neg q]; simp [q]
theorem is_F (s : Say) : (decide (V.str s.sort = V.str "is") || decide (V.str s.sort = V.str "put")) = s.isF := by cases s <;> kernel_rfl
theorem due_F {ws : List (Str × Nat)} {s : Say} (h : s.isF = true) : s.due ws = s.own ws := by cases s <;> first | rfl | cases h
abbrev bareV : List V := [.str "all", .str "none", .str "note"]
def Say.bare : Say → Bool
  | .every => true | .nought => true | .note => true
  | _ => false
theorem in_bare (s : Say) : inV (.str s.sort) bareV = s.bare := by cases s <;> kernel_rfl
theorem due_bare {ws : List (Str × Nat)} {s : Say} (h : s.bare = true) : s.due ws = none := by cases s <;> first | rfl | cases h
theorem due_kids {ws : List (Str × Nat)} {s : Say} (h1 : s.isF = false) (h2 : s.bare = false) (h3 : ∀ t, s = .no t → t.isT = true) : s.hasK = true ∧ s.kids.findSome? (Say.due ws) = s.due ws := by
  cases s
  case no t => exact ⟨rfl, by rw [Say.due, if_pos (h3 t rfl)]; show List.findSome? (Say.due ws) [t] = _; rw [List.findSome?_cons]; cases t.due ws <;> rfl⟩
  case again t => exact ⟨rfl, by rw [Say.due]; show List.findSome? (Say.due ws) [t] = _; rw [List.findSome?_cons]; cases t.due ws <;> rfl⟩
  case either a b => exact ⟨rfl, by rw [Say.due]; show List.findSome? (Say.due ws) [a, b] = _; rw [List.findSome?_cons, List.findSome?_cons]; cases a.due ws <;> cases b.due ws <;> rfl⟩
  case both a b => exact ⟨rfl, by rw [Say.due]; show List.findSome? (Say.due ws) [a, b] = _; rw [List.findSome?_cons, List.findSome?_cons]; cases a.due ws <;> cases b.due ws <;> rfl⟩
  all_goals first | (simp [Say.isF] at h1; done) | (simp [Say.bare] at h2; done)
theorem flt_none {ws : List (Str × Nat)} {x : Str} {v : Int} (h : look ws x = none) : fltOf ws x v = some (.field x) := by unfold fltOf; rw [h]
theorem flt_some {ws : List (Str × Nat)} {x : Str} {v : Int} {i c : Nat} (h : look ws x = some (i, c)) : fltOf ws x v = if 0 ≤ v ∧ v < (c : Int) then none else some (.value v) := by unfold fltOf; rw [h]
def scDc : Scope := { kind := .function, names := [(".0", .local), ("_law_field", .local), ("_law_count", .local), ("_law_saying_here", .free)], isGenerator := false, isCoroutine := false, more := [] }
abbrev nDu : List Str := ["_law_speech_here", "_law_saying_here", "_law_sort", "_law_counts", "_law_one", "_law_found"]
section
variable {P : Program} {w : World} {K : PySem.W.Frag} {mg : Str → Option Value} {base : Heap}
theorem scDu : FnScope nDu ["_law_speech_here", "_law_saying_here"] (defScope sDue) := ⟨rfl, rfl, rfl, by decide +kernel, rfl, by decide +kernel, by decide +kernel⟩
theorem cDu {CX : CXT} {f : Addr} {cdv : Value} {A : Around} {outer : List Env} {s : Shared} {H : Hp} {E : XK} :
    CScope (cxOf CX P w K mg base nDu "_law_bad" (defScope sDue) f cdv A outer s H E).nox ["_law_field", "_law_count"] ["_law_saying_here"] [1] scDc [("_law_saying_here", s.heap.objs.size + 1)] where
  clos := by with_unfolding_all rfl
  kind := rfl
  nocell := by decide +kernel
  locs := by decide +kernel
  sub := fun p hp => by
    cases List.mem_singleton.mp hp
    with_unfolding_all rfl
  has := fun y h => by
    have z : (y, NameKind.cell) ∈ (relabel scDc (cxOf CX P w K mg base nDu "_law_bad" (defScope sDue) f cdv A outer s H E).nox.env).names ∨
      (y, NameKind.free) ∈ (relabel scDc (cxOf CX P w K mg base nDu "_law_bad" (defScope sDue) f cdv A outer s H E).nox.env).names := h.imp look_mem look_mem
    have e : (relabel scDc (cxOf CX P w K mg base nDu "_law_bad" (defScope sDue) f cdv A outer s H E).nox.env).names = ([(".0", NameKind.local), ("_law_field", NameKind.local), ("_law_count", NameKind.local), ("_law_saying_here", NameKind.cell)] : List (Str × NameKind)) := by with_unfolding_all rfl
    rw [e] at z
    have y' : y = "_law_saying_here" := by
      simp only [List.mem_cons, List.not_mem_nil, or_false, Prod.mk.injEq] at z
      rcases z with (⟨_, q⟩ | ⟨_, q⟩ | ⟨_, q⟩ | ⟨q, _⟩) | (⟨_, q⟩ | ⟨_, q⟩ | ⟨_, q⟩ | ⟨_, q⟩)
      · cases q
      · cases q
      · cases q
      · exact q
      · cases q
      · cases q
      · cases q
      · cases q
    subst y'
    exact ⟨_, by with_unfolding_all rfl⟩
  len := rfl
  outs := fun j y e => by
    cases j with
    | zero =>
      have y' : ("_law_saying_here" : Str) = y := Option.some.inj e
      subst y'
      exact ⟨1, rfl, rfl, .inl (by with_unfolding_all rfl), .inl (by with_unfolding_all rfl)⟩
    | succ j => cases e
theorem pgDu {X : Cx} {C s H fp} {cl : List (Str × Addr)} {k : Nat} {p1 p2 p3 : Pos} (hc : X.calm = true) : PG (cxC X ((["_law_field", "_law_count"] : List Str) ++ (["_law_saying_here"] : List Str)) scDc cl C s H fp) (.Tuple [.Name "_law_field" p1, .Name "_law_count" p2] k p3) (gTup X.K 2 (gCons (gName 0) (gCons (gName 1) gNil))) := by
  have nd : (cxC X ((["_law_field", "_law_count"] : List Str) ++ (["_law_saying_here"] : List Str)) scDc cl C s H fp).N.Nodup := by show (["_law_field", "_law_count", "_law_saying_here"] : List Str).Nodup; decide +kernel
  exact pg_tup hc (pgs_cons (pg_name (i := 0) nd rfl (Or.inl rfl) (.inr rfl)) (pgs_cons (pg_name (i := 1) nd rfl (Or.inl rfl) (.inr rfl)) pgs_nil))
theorem ok_due {f fT : Addr} {fd fdT : FuncData} (F : Fun K "_law_bad" "_law_bad" sDue f fd) (bF : Binds K fd ["_law_speech_here", "_law_saying_here"] []) (kF : PySem.W.keepIn K (.ref f) = true) (mF : mg "_law_bad" = some (.ref f))
    (GT : ∀ n, FnOk P w K mg base CX0 (n + 1) fT fdT ["_law_saying_here"] (spLT K n)) (bT : Binds K fdT ["_law_saying_here"] []) (kT : PySem.W.keepIn K (.ref fT) = true) (mT : mg "_law_is_test" = some (.ref fT)) (mi : mg "int" = none) :
    ∀ n : Nat, FnOk P w K mg base CX0 (n + 2) f fd ["_law_speech_here", "_law_saying_here"] (spDue K n)
  | 0 => by
    refine F.ok scDu (fun vs H Q E h => ?_) (fun cdv A outer s H vs Q E hr h => ?_)
    · obtain ⟨sp, x, ws, sy, rfl, _⟩ := h
      rfl
    · obtain ⟨sp, x, ws, sy, rfl, _, _, _, hn, _⟩ := h
      have := size_pos sy
      omega
  | n + 1 => by
    have G := ok_due F bF kF mF GT bT kT mT mi n
    refine F.ok scDu (fun vs H Q E h => ?_) (fun cdv A outer s H vs Q E hr h => ?_)
    · obtain ⟨sp, x, ws, sy, rfl, _⟩ := h
      rfl
    obtain ⟨sp, x, ws, sy, rfl, hs, w3, hx, hn, q⟩ := h
    obtain ⟨a, xs, rfl, ha, hk⟩ := da_open hx
    -- all, none, note; the sayings within
    have tail : ∃ tt, PSs (cxOf CX0 P w K mg base nDu "_law_bad" (defScope sDue) f cdv A outer s H E).nox ((defBody sDue).drop 3) tt ∧ ∀ (G0 : Hp), Same H G0 → sy.isF = false → (∀ t, sy = .no t → t.isT = true) →
        tt { nx := fun _ H' => Q .non H', rt := Q } [some (.ref sp), some (.ref a), some (.str sy.sort), none, none, none] G0 := by
      refine ⟨_, pss_cons (ps_if (pt_cmpR op_in_seq (pv 2) (pe_lst (pc_c pe_str (pc_c pe_str (pc_c pe_str pa_nil)))) (by with_unfolding_all rfl)) (pss_one (ps_ret (pe_lst pa_nil))) pss_nil)
        (pss_cons (ps_for PassesOwn.never rfl (pi_tup (pe_slice sl_tup (pv 1) (po_some pe_int) po_none)) (pg_name (i := 4) scDu.nd rfl (Or.inl rfl))
          (pss_cons (ps_set (i := 5) scDu.nd rfl (Or.inl rfl) (pe_call G hr rfl mF kF bF .nil pass0 (pa_cons (pv 0) (pa_cons (pv 4) pa_nil))))
          (pss_one (ps_if (pt_cmpR (op_neLL hr.units) (pv 5) (pe_lst pa_nil) (nomark _)) (pss_one (ps_ret (pv 5))) pss_nil))))
        (pss_one (ps_ret (pe_lst pa_nil)))), ?_⟩
      intro G0 s0 nF nT
      refine ⟨_, rfl, (by show 3 ≤ sizeLine; decide), fun l1 hl1 => ⟨l1, bareV, rfl, .inl (SqL.of upd_same), rfl, by decide +kernel, _, rfl, ?_⟩⟩
      show if inV (.str sy.sort) bareV = true then _ else _
      rw [in_bare]
      have s1 := Same.trans s0 (same_new hl1 (.lst bareV))
      refine ite2 (fun c => ?_) (fun c => ?_)
      · refine ⟨(by show 0 ≤ sizeLine; decide), fun r hr' => q r _ (Same.trans s1 (same_new hr' _)) ?_⟩
        rw [due_bare c]
        exact upd_same
      obtain ⟨hK, eD⟩ := due_kids (ws := ws) nF (by simpa using c) nT
      refine ⟨_, rfl, _, rfl, a, _, rfl, ha.same s1, cut_kids, fun p hp => ?_⟩
      rw [cut1]
      have s3 := Same.trans s1 (same_new hp (.tup xs))
      have hk3 := Holds.mono s3 (hk hK)
      refine ⟨p, rfl, ⟨_, SqT.of upd_same⟩, ?_⟩
      generalize hG3 : upd (upd G0 l1 (.lst bareV)) p (.tup xs) = G3 at s3 hk3 ⊢
      have hp3 : G3 p = some (.tup xs) := by rw [← hG3, upd_same]
      refine for_tup (K := K) (a := p) (xs := xs) (fun i σ G => ∃ v4 v5 : Option V, σ = [some (.ref sp), some (.ref a), some (.str sy.sort), none, v4, v5] ∧ Same G3 G ∧ (sy.kids.drop i).findSome? (Say.due ws) = sy.due ws)
        ⟨_, _, rfl, Same.refl _, eD⟩ (fun i σ G _ ⟨_, _, _, sG, _⟩ => SqT.of (sG _ _ hp3)) ?_ ?_
      · rintro i y σ G4 hy ⟨v4, v5, rfl, sG, lk⟩
        obtain ⟨k, ek, hk'⟩ := hk3.getm hy
        have kz := kid_size (List.mem_of_getElem? ek)
        obtain ⟨n1, n2⟩ := find_at ek lk
        refine ⟨_, rfl, _, rfl, sp, y, ws, k, rfl, Hold.mono (Same.trans s3 sG) hs, w3, Hold.mono sG hk', by omega, fun r G5 s5 hd => ?_⟩
        obtain ⟨zs, hz, z1, z2⟩ := hd.len
        refine ⟨_, rfl, (by show 0 ≤ sizeLine; decide), fun l hl => ⟨r, l, zs, [], rfl, rfl, SqL.of (same_new hl _ _ _ hz), SqL.of upd_same, ?_⟩⟩
        have s6 := Same.trans (Same.trans sG s5) (same_new hl (.lst []))
        cases ed : k.due ws with
        | none =>
          rw [z1 ed]
          exact .inr ⟨[], .nil, .nil, by decide, _, rfl, iteF ⟨_, _, rfl, s6, n2 ed⟩⟩
        | some ff =>
          have zl : zs.length = 2 := z2 (by rw [ed]; intro z; cases z)
          refine .inl ⟨by rw [zl]; decide, _, rfl, iteT ⟨_, rfl, q r _ (Same.trans s3 s6) ?_⟩⟩
          rw [n1 ff ed, ← ed]
          exact hd.mono (same_new hl _)
      · rintro σ G4 ⟨v4, v5, rfl, sG, lk⟩
        have lx : xs.length = sy.kids.length := by rw [hk3.length, List.length_map]
        rw [lx, List.drop_length] at lk
        refine ⟨(by show 0 ≤ sizeLine; decide), fun r hr' => q r _ (Same.trans (Same.trans s3 sG) (same_new hr' _)) ?_⟩
        rw [← lk]
        exact upd_same
    obtain ⟨tt, ht, hq⟩ := tail
    refine ⟨_, pss_cons (ps_set (i := 2) scDu.nd rfl (Or.inl rfl) (pe_ix ix_tup (pv 1) pe_int (fun _ _ => rfl)))
      (pss_cons (ps_if (PW.pt (pw_or (pt_cmpR op_eq (pv 2) pe_str (nomark _)) (pw_or1 (pt_cmpR op_eq (pv 2) pe_str (nomark _)))))
        (pss_cons (ps_setC (i0 := 3) (ns := ["_law_field", "_law_count"]) (ys := ["_law_saying_here"]) (sc := scDc) scDu.nd rfl rfl cDu rfl (pi_tup (pv 0)) (fun C s H fp => pgDu rfl)
          (fun C s H fp => pts_one (pt_cmpR op_eq (pv 0) (pe_ix (r := rIxT K) ix_tup (pv 2) pe_int (fun _ _ => rfl)) (nomark _))) (fun C s H fp => pv 1))
        (pss_cons (ps_if (pt_cmpR (op_eqLL hr.units) (pv 3) (pe_lst pa_nil) (nomark _)) (pss_one (ps_ret (pe_lst (pc_c pe_str (pa_cons (pe_ix ix_tup (pv 1) pe_int (fun _ _ => rfl)) pa_nil))))) pss_nil)
        (pss_one (ps_ret (pe_ix ix_list (pe_lst (pa_cons (pe_lst (pc_c pe_str (pa_cons (pe_ix ix_tup (pv 1) pe_int (fun _ _ => rfl)) pa_nil))) (pa_cons (pe_lst pa_nil) pa_nil)))
          (pe_callTy call_int1 rfl mi (by kernel_rfl) (pa_cons (pe_and (pe_cmpR op_le pe_int (pe_ix ix_tup (pv 1) pe_int (fun _ _ => rfl)) (nomark _)) (pe_one (pe_cmpR op_lt (pe_ix ix_tup (pv 1) pe_int (fun _ _ => rfl)) (pe_ix ix_list (pv 3) pe_int (fun _ _ => rfl)) (nomark _)))) pa_nil)) (fun _ _ => rfl)))))) pss_nil)
      (pss_cons (ps_if (PW.pt (pw_and (pt_cmpR op_eq (pv 2) pe_str (nomark _)) (pw_and1 (pt_not (pt_val (pe_call (GT n) (hr.mono (Nat.le_succ _)) rfl mT kT bT .nil pass0 (pa_cons (pe_ix ix_tup (pv 1) pe_int (fun _ _ => rfl)) pa_nil)))))))
        (pss_one (ps_ret (pe_lst (pc_c pe_str (pa_cons (pe_ix ix_tup (pv 1) pe_int (fun _ _ => rfl)) pa_nil))))) pss_nil) ht)), ?_⟩
    refine ⟨_, rfl, a, _, _, _, rfl, rfl, ha, at0' _ _, ?_⟩
    refine ⟨_, rfl, rfl, _, rfl, orS (fun z => ⟨_, rfl, rfl, _, rfl, z⟩) ?_⟩
    show if (decide (V.str sy.sort = V.str "is") || decide (V.str sy.sort = V.str "put")) = true then _ else _
    rw [is_F]
    refine ite2 (fun c => ?_) (fun c => ?_)
    · -- is, put
      obtain ⟨b, fx, vx, e, hb, ho, hno⟩ := fld_open ws hx c
      cases e
      have eD : sy.due ws = fltOf ws fx.1 vx.1 := (due_F c).trans ho
      obtain ⟨a', ys, ea, has, hys⟩ := Hold.tupI hs
      cases ea
      have lw : ys.length = ws.length := by rw [hys.length, List.length_map]
      refine ⟨_, rfl, sp, rfl, ⟨_, has⟩, fun D hD => ?_⟩
      refine comp_tup (K := K) (a := sp) (xs := ys) (fun i zs G => Same H G ∧ G D = some (.lst zs) ∧ zs = cntV (ws.take i) fx.1) ⟨same_new hD _, upd_same, rfl⟩ (fun i zs G z => z.2.1) (fun i zs G _ z => has.same z.1) ?_ ?_
      · rintro i y zs G hy ⟨sG, gD, rfl⟩
        obtain ⟨w', ew, hw⟩ := hys.getm hy
        obtain ⟨b2, ys2, rfl, hb2, hys2⟩ := Hold.tupI hw
        cases hys2 with
        | cons h1 r1 =>
          cases r1 with
          | cons h2 r2 =>
            cases r2
            cases h1.flatI
            cases h2.flatI
            have zl : (cntV (ws.take i) fx.1).length ≤ 3 := by
              unfold cntV
              rw [List.length_map]
              exact Nat.le_trans (List.length_filter_le _ _) (by rw [List.length_take]; omega)
            refine ⟨small1000 (by omega), b2, _, rfl, hb2.same sG, rfl, _, _, rfl, _, _, rfl, rfl, ⟨[some _, some _], rfl, rfl⟩, ?_⟩
            refine ⟨_, rfl, _, rfl, a, _, _, _, rfl, rfl, hb.same sG, rfl, rfl, _, rfl, ?_⟩
            have ct := cnt_take (x := fx.1) ew
            refine ite2 (fun c1 => ?_) (fun c1 => ?_)
            · have e1 : w'.1 = fx.1 := by have z := of_decide_eq_true c1; injection z
              rw [if_pos e1] at ct
              refine ⟨_, rfl, gD, Same.put sG hD _, upd_same, ct.symm⟩
            · have e1 : w'.1 ≠ fx.1 := fun z => c1 (decide_eq_true (by rw [z]))
              rw [if_neg e1, List.append_nil] at ct
              exact ⟨sG, gD, ct.symm⟩
      rintro zs G1 ⟨s1, gD, rfl⟩
      rw [lw, List.take_length] at gD
      refine ⟨_, rfl, (by show 0 ≤ sizeLine; decide), fun l hl => ⟨D, l, _, [], rfl, rfl, SqL.of (same_new hl _ _ _ gD), SqL.of upd_same, ?_⟩⟩
      have s2 := Same.trans s1 (same_new hl (.lst []))
      have gD2 := same_new hl (.lst []) _ _ gD
      cases lk : look ws fx.1 with
      | none =>
        rw [cnt_none lk]
        refine .inr ⟨[], .nil, .nil, by decide, _, rfl, iteT ?_⟩
        refine ⟨_, rfl, a, _, _, _, rfl, rfl, hb.same s2, rfl, (by show 2 ≤ sizeLine; decide), fun r hr' => q r _ (Same.trans s2 (same_new hr' _)) ?_⟩
        rw [eD, flt_none lk]
        exact upd_same
      | some ic =>
        obtain ⟨i, c0⟩ := ic
        obtain ⟨rest, er⟩ := cnt_some lk
        rw [er] at gD2 ⊢
        have fs := flt_some (v := vx.1) lk
        refine .inl ⟨by simp, _, rfl, iteF ?_⟩
        refine ⟨_, rfl, a, _, _, _, rfl, rfl, hb.same s2, rfl, (by show 2 ≤ sizeLine; decide), fun l1 h1 => ⟨(by show 0 ≤ sizeLine; decide), fun l2 h2 => ⟨(by show 2 ≤ sizeLine; decide), fun l3 h3 => ?_⟩⟩⟩
        generalize hG4 : upd (upd (upd (upd G1 l (.lst [])) l1 (.lst [.str "value", .int vx.1])) l2 (.lst [])) l3 (.lst [.ref l1, .ref l2]) = G4
        have g1 : G4 l1 = some (.lst [.str "value", .int vx.1]) := by rw [← hG4]; exact same_new h3 _ _ _ (same_new h2 _ _ _ upd_same)
        have g2 : G4 l2 = some (.lst []) := by rw [← hG4]; exact same_new h3 _ _ _ upd_same
        have g3 : G4 l3 = some (.lst [.ref l1, .ref l2]) := by rw [← hG4, upd_same]
        have s4' : Same (upd G1 l (.lst [])) G4 := by rw [← hG4]; exact Same.trans (same_new h1 _) (Same.trans (same_new h2 _) (same_new h3 _))
        have s4 : Same H G4 := Same.trans s2 s4'
        have fin : ∀ k : Bool, (k = true ↔ 0 ≤ vx.1 ∧ vx.1 < (c0 : Int)) → rIxL K (.ref l3) (.int (if k = true then 1 else 0)) G4 Q := fun k hk' => by
          cases k with
          | true =>
            refine ⟨l3, _, _, _, rfl, rfl, SqL.of g3, rfl, q l2 G4 s4 ?_⟩
            rw [eD, fs, if_pos (hk'.mp rfl)]
            exact g2
          | false =>
            refine ⟨l3, _, _, _, rfl, rfl, SqL.of g3, rfl, q l1 G4 s4 ?_⟩
            rw [eD, fs, if_neg (fun z => by cases hk'.mpr z)]
            exact g1
        refine ⟨_, rfl, a, _, _, _, rfl, rfl, hb.same s4, rfl, _, _, rfl, rfl, _, rfl, ?_⟩
        refine ite2 (fun c1 => ?_) (fun c1 => ?_)
        · have c1' : 0 ≤ vx.1 := of_decide_eq_true c1
          refine ⟨_, rfl, a, _, _, _, rfl, rfl, hb.same s4, rfl, _, rfl, D, _, _, _, rfl, rfl, SqL.of (s4' _ _ gD2), at0' _ _, _, _, rfl, rfl, .inr ⟨_, rfl, fin _ ?_⟩⟩
          rw [decide_eq_true_iff]
          exact ⟨fun z => ⟨c1', z⟩, fun z => z.2⟩
        · have c1' : ¬ 0 ≤ vx.1 := fun z => c1 (decide_eq_true z)
          exact .inr ⟨_, rfl, fin false ⟨fun z => (by cases z), fun z => absurd z.1 c1'⟩⟩
    · have nF : sy.isF = false := by simpa using c
      refine ⟨_, rfl, rfl, _, rfl, ?_⟩
      show if decide (V.str sy.sort = V.str "not") = true then _ else _
      rw [is_No]
      refine ite2 (fun d => ?_) (fun d => ?_)
      · obtain ⟨b, y, t, rfl, e, hb, hy⟩ := no_open hx d
        cases e
        have tz : t.size + 1 ≤ n + 1 := hn
        refine ⟨_, rfl, a, _, _, _, rfl, rfl, hb, rfl, y, t, rfl, hy, by omega, fun G1 s1 => ⟨_, rfl, ?_⟩⟩
        refine ite2 (fun c1 => ?_) (fun c1 => ?_)
        · have tT : t.isT = false := by simpa using c1
          refine ⟨_, rfl, a, _, _, _, rfl, rfl, hb.same s1, rfl, (by show 2 ≤ sizeLine; decide), fun r hr' => q r _ (Same.trans s1 (same_new hr' _)) ?_⟩
          rw [Say.due, if_neg (by rw [tT]; decide)]
          exact ⟨y, upd_same, Hold.mono (Same.trans s1 (same_new hr' _)) hy⟩
        · have tT : t.isT = true := by simpa using c1
          exact hq G1 s1 nF fun t' e => by cases e; exact tT
      · refine iteF (hq H (Same.refl _) nF fun t e => ?_)
        subst e
        exact absurd rfl d
end
end S7


set_option Elab.async false
set_option maxRecDepth 100000
set_option maxHeartbeats 4000000
/-! k72: must_plain, must_tie, must_net, and what begins with it -/
namespace L2
open PySem Fly
/-- what is never come to -/
theorem pss_no {X : Cx} {l : List Stmt} : PSs X l (fun _ _ _ => False) := fun _ _ _ _ _ _ h => h.elim
theorem del_new {H : Hp} {e : Addr} {o : HO} (he : H e = none) : Same H (del (upd H e o) e) := fun b u z => by
  have h1 : b ≠ e := ne_of_none z he
  rw [del_ne h1, upd_ne h1]; exact z
end L2
namespace S7
open PySem L2 Fly PyProof.Rows
structure Net where
  ws : List (Str × Nat)
  rules : List Say
  ties : List (List Num)
def tieD (t : List Num) : Da := .tup (t.map fun v => .flat (.int v.1))
def Net.da (n : Net) : Da := .tup [speechD n.ws, .tup (n.rules.map Say.da), .tup (n.ties.map tieD)]
inductive NF where
  | net
  | flt (f : Flt)
  | plain (s : Say)
/-- the count of a tie's place -/
def cnt (ws : List (Str × Nat)) (p : Nat) : Nat := ((ws[p % 2]?).map (·.2)).getD 0
def tieBad (ws : List (Str × Nat)) : Nat → List Num → Option Int
  | _, [] => none
  | p, v :: r => if 0 ≤ v.1 ∧ v.1 < (cnt ws p : Int) then tieBad ws (p + 1) r else some v.1
def Say.rdue (ws : List (Str × Nat)) (s : Say) : Option NF := match s.due ws with
  | some f => some (.flt f)
  | none => if s.nts = 0 then none else some (.plain s)
def tdue (ws : List (Str × Nat)) (t : List Num) : Option NF := (tieBad ws 0 t).map fun v => .flt (.value v)
def Net.low (n : Net) : Bool := decide (n.ws.length < 2) || decide (n.rules.length ≠ cnt n.ws 0)
def Net.due (n : Net) : Option NF := if n.low = true then some .net else (n.rules.findSome? (Say.rdue n.ws)).or (n.ties.findSome? (tdue n.ws))
structure NetOk (n : Net) : Prop where
  size : ∀ s ∈ n.rules, s.size ≤ 500
  four : ∀ t ∈ n.ties, t.length = 4
def NOut (K : PySem.W.Frag) (H : Hp) (E : XK) (cF cV cT cP cN : Addr) : NF → Prop
  | .net => ∀ H', Same H H' → E (.ref cN) none H'
  | .flt f => FOut K H E cF cV cT f
  | .plain s => ∀ dx y H', Same H H' → H' dx = some (.xd [("saying", y)]) → Hold K H' y s.da → E (.ref cP) (some dx) H'
def spMPl (K : PySem.W.Frag) (cP : Addr) : Sp := fun vs H Q E => ∃ (x : V) (s : Say), vs = [x] ∧ Hold K H x s.da ∧ s.size ≤ 500 ∧ (s.nts = 0 → ∀ H', Same H H' → Q .non H') ∧ (s.nts ≠ 0 → ∀ dx y H', Same H H' → H' dx = some (.xd [("saying", y)]) → Hold K H' y s.da → E (.ref cP) (some dx) H')
def spTie (K : PySem.W.Frag) (cV : Addr) : Sp := fun vs H Q E => ∃ (sp tp : Addr) (ws : List (Str × Nat)) (t : List Num), vs = [.ref sp, .ref tp] ∧ Hold K H (.ref sp) (speechD ws) ∧ 2 ≤ ws.length ∧ Hold K H (.ref tp) (tieD t) ∧
  (tieBad ws 0 t = none → ∀ H', Same H H' → Q .non H') ∧ (∀ v, tieBad ws 0 t = some v → ∀ dx H', Same H H' → H' dx = some (.xd [("value", .int v)]) → E (.ref cV) (some dx) H')
def spMN (K : PySem.W.Frag) (cF cV cT cP cN : Addr) : Sp := fun vs H Q E => ∃ (x : V) (n : Net), vs = [x] ∧ Hold K H x n.da ∧ NetOk n ∧ (n.due = none → ∀ H', Same H H' → Q .non H') ∧ (∀ f, n.due = some f → NOut K H E cF cV cT cP cN f)
/-- asked of a net that is refused -/
def spBad (K : PySem.W.Frag) (cF cV cT cP cN : Addr) (m : Nat) : Sp := fun vs H _ E => ∃ (x : V) (rest : List V) (n : Net) (f : NF), vs = x :: rest ∧ rest.length = m ∧ Hold K H x n.da ∧ NetOk n ∧ n.due = some f ∧ NOut K H E cF cV cT cP cN f
theorem net_open {K : PySem.W.Frag} {H : Hp} {x : V} {n : Net} (h : Hold K H x n.da) : ∃ (a sp rp tp : Addr) (rs ts : List V), x = .ref a ∧ SqT K H a [.ref sp, .ref rp, .ref tp] ∧ Hold K H (.ref sp) (speechD n.ws) ∧ SqT K H rp rs ∧ Holds K H rs (n.rules.map Say.da) ∧ SqT K H tp ts ∧ Holds K H ts (n.ties.map tieD) := by
  obtain ⟨a, xs, e, ha, hd⟩ := Hold.tupI h
  cases hd with
  | cons h1 r1 => cases r1 with
    | cons h2 r2 => cases r2 with
      | cons h3 r3 =>
        cases r3
        obtain ⟨sp, ys, e1, _, _⟩ := Hold.tupI h1
        obtain ⟨rp, rs, e2, hr, hrs⟩ := Hold.tupI h2
        obtain ⟨tp, ts, e3, ht, hts⟩ := Hold.tupI h3
        subst e1 e2 e3
        exact ⟨a, sp, rp, tp, rs, ts, e, ha, h1, hr, hrs, ht, hts⟩
theorem at1' {α : Type} (x y : α) (xs : List α) : atI (x :: y :: xs) (1 : Int) = some y := atI_nat (j := 1) rfl
theorem at2' {α : Type} (x y z : α) (xs : List α) : atI (x :: y :: z :: xs) (2 : Int) = some z := atI_nat (j := 2) rfl
/-- speech[i][1] -/
theorem cnt_open {K : PySem.W.Frag} {H : Hp} {sp : Addr} {ws : List (Str × Nat)} (h : Hold K H (.ref sp) (speechD ws)) {i : Nat} (hi : i < ws.length) : ∃ (ys : List V) (b : Addr) (x : Str) (c : Nat), SqT K H sp ys ∧ ys.length = ws.length ∧ ys[i]? = some (.ref b) ∧ SqT K H b [.str x, .int (c : Int)] ∧ ws[i]? = some (x, c) := by
  obtain ⟨a, ys, e, ha, hd⟩ := Hold.tupI h
  cases e
  have l : ys.length = ws.length := by rw [hd.length, List.length_map]
  obtain ⟨w', e1, k⟩ := hd.getm (List.getElem?_eq_getElem (show i < ys.length by omega))
  obtain ⟨b, zs, e2, hb, hz⟩ := Hold.tupI k
  cases hz with
  | cons h1 r1 => cases r1 with
    | cons h2 r2 =>
      cases r2; cases h1.flatI; cases h2.flatI
      refine ⟨ys, b, w'.1, w'.2, ha, l, ?_, hb, e1⟩
      rw [List.getElem?_eq_getElem (by omega), e2]
theorem cnt_eq {ws : List (Str × Nat)} {p : Nat} {x : Str} {c : Nat} (h : ws[p % 2]? = some (x, c)) : cnt ws p = c := by unfold cnt; rw [h]; rfl
theorem tieBad_drop {ws : List (Str × Nat)} {t : List Num} {i : Nat} {v : Num} {r : Option Int} (hv : t[i]? = some v) (h : tieBad ws i (t.drop i) = r) : (0 ≤ v.1 ∧ v.1 < (cnt ws i : Int) → tieBad ws (i + 1) (t.drop (i + 1)) = r) ∧ (¬ (0 ≤ v.1 ∧ v.1 < (cnt ws i : Int)) → r = some v.1) := by
  have hi : i < t.length := (List.getElem?_eq_some_iff.mp hv).1
  have e : t.drop i = v :: t.drop (i + 1) := by
    rw [List.drop_eq_getElem_cons hi, (List.getElem?_eq_some_iff.mp hv).2]
  rw [e] at h
  have h' : (if 0 ≤ v.1 ∧ v.1 < (cnt ws i : Int) then tieBad ws (i + 1) (t.drop (i + 1)) else some v.1) = r := h
  constructor
  · intro z; rw [if_pos z] at h'; exact h'
  · intro z; rw [if_neg z] at h'; exact h'.symm
section
variable {P : Program} {w : World} {K : PySem.W.Frag} {mg : Str → Option Value} {base : Heap} {cF cV cT cP cN : Addr}
theorem scPl2 : FnScope ["saying"] ["saying"] (defScope sMPlain) := ⟨rfl, rfl, rfl, by decide +kernel, rfl, by decide +kernel, by decide +kernel⟩
theorem ok_mplain {f fN fI : Addr} {fd fdN fdI : FuncData} (F : Fun K "must_plain" "must_plain" sMPlain f fd) (c : XCls K cP) (n : NoAttr K cP "saying") (hi : PySem.W.findIn K (.ref cP) "__init__" = some (some (.ref fI))) (lf : ∃ oI, K.lookup fI = some oI ∧ oI.cls = .type "function")
    (GI : FnOk P w K mg base CX0 1 fI fdI ["self", "saying"] (spInit K cP "saying" fun _ => True)) (bI : Binds K fdI ["self", "saying"] []) (mC : mg "NoPlain" = some (.ref cP))
    (GN : FnOk P w K mg base CX0 3 fN fdN ["saying"] (spNts K)) (bN : Binds K fdN ["saying"] []) (kN : PySem.W.keepIn K (.ref fN) = true) (mN : mg "notes_in" = some (.ref fN)) : FnOk P w K mg base (CXx P w) 4 f fd ["saying"] (spMPl K cP) := by
  refine F.okX scPl2 (fun vs H Q E h => ?_) (fun cdv A outer s H vs Q E hr h => ?_)
  · obtain ⟨x, sy, rfl, _⟩ := h
    rfl
  obtain ⟨x, sy, rfl, hx, h500, q1, q2⟩ := h
  refine ⟨_, pss_one (ps_if (pt_truth (pe_call GN hr rfl mN kN bN .nil pass0 (pa_cons (pv 0) pa_nil)) (fun _ => rfl))
    (pss_one (ps_raise c (pe_makeX c hi lf GI (hr.mono (by decide)) rfl mC bI (pa_cons (pv 0) pa_nil)))) pss_nil), ?_⟩
  refine ⟨_, rfl, x, sy, rfl, hx, h500, fun G1 s1 => ⟨((sy.nts : Int) != 0), rfl, ?_⟩⟩
  refine ite2 (fun c0 => ?_) (fun c0 => ?_)
  · have nz : sy.nts ≠ 0 := fun z => by rw [z] at c0; exact absurd c0 (by decide)
    refine ⟨_, rfl, (by show 1 ≤ 100; decide), fun e he => ⟨e, x, rfl, c, n, trivial, upd_same, fun dx hd ne => ⟨rfl, e, some dx, rfl, upd_same, Same.free s1 he, ?_⟩⟩⟩
    obtain ⟨z1, z2, _⟩ := del_same3 (o2 := .xd [("saying", x)]) (o3 := XNew e cP (some dx)) he hd ne
    exact q2 nz dx x _ (Same.trans s1 z1) z2 (Hold.mono (Same.trans s1 z1) hx)
  · have nz : sy.nts = 0 := by
      have z : ((sy.nts : Int) != 0) = false := by simpa using c0
      have z' : (sy.nts : Int) = 0 := by simpa using z
      omega
    exact q1 nz G1 s1
theorem scTi : FnScope ["speech", "tie", "place", "value"] ["speech", "tie"] (defScope sMTie) := ⟨rfl, rfl, rfl, by decide +kernel, rfl, by decide +kernel, by decide +kernel⟩
theorem ok_mtie {f fM : Addr} {fd fdM : FuncData} (F : Fun K "must_tie" "must_tie" sMTie f fd)
    (GM : FnOk P w K mg base (CXx P w) 3 fM fdM ["count", "value"] (spMust cV)) (bM : Binds K fdM ["count", "value"] []) (kM : PySem.W.keepIn K (.ref fM) = true) (mM : mg "must_value" = some (.ref fM)) (me : mg "enumerate" = none) :
    FnOk P w K mg base (CXx P w) 4 f fd ["speech", "tie"] (spTie K cV) := by
  refine F.okX scTi (fun vs H Q E h => ?_) (fun cdv A outer s H vs Q E hr h => ?_)
  · obtain ⟨sp, tp, ws, t, rfl, _⟩ := h
    rfl
  obtain ⟨sp, tp, ws, t, rfl, hs, w2, ht, q1, q2⟩ := h
  refine ⟨_, pss_one (ps_for PassesOwn.leaving rfl (pi_enum rfl me (pa_cons (pv 1) pa_nil)) (pg_tup rfl (pgs_cons (pg_name (i := 2) scTi.nd rfl (Or.inl rfl)) (pgs_cons (pg_name (i := 3) scTi.nd rfl (Or.inl rfl)) pgs_nil)))
    (pss_one (ps_expr (pe_call GM hr rfl mM kM bM .nil passX (pa_cons (pe_ix ix_tup (pe_ix ix_tup (pv 0) (pe_op op_mod (pv 2) pe_int) (fun _ _ => rfl)) pe_int (fun _ _ => rfl)) (pa_cons (pv 3) pa_nil)))))), ?_⟩
  obtain ⟨tp', ts, et, hts, hd⟩ := Hold.tupI ht
  cases et
  have lt : ts.length = t.length := by rw [hd.length, List.length_map]
  refine ⟨_, rfl, tp, ts, rfl, hts, for_enum (xs := ts) (fun i σ G => ∃ v2 v3 : Option V, σ = [some (.ref sp), some (.ref tp), v2, v3] ∧ Same H G ∧ tieBad ws i (t.drop i) = tieBad ws 0 t)
    ⟨_, _, rfl, Same.refl _, rfl⟩ (fun i σ G _ ⟨_, _, _, sG, _⟩ => hts.same sG) ?_ ?_⟩
  · rintro i y p σ G hy ⟨v2, v3, rfl, sG, lk⟩ hp
    obtain ⟨v, ev, hv⟩ := hd.getm hy
    cases hv.flatI
    obtain ⟨k1, k2⟩ := tieBad_drop ev lk
    have sP : Same H (upd G p (.tup [.int (i : Int), .int v.1])) := Same.trans sG (same_new hp _)
    have i2 : i % 2 < ws.length := Nat.lt_of_lt_of_le (Nat.mod_lt _ (by decide)) w2
    obtain ⟨ys, b, x, c, hys, ly, eb, hb, ew⟩ := cnt_open (Hold.mono sP hs) i2
    have ec := cnt_eq ew
    refine ⟨p, _, rfl, SqT.of upd_same, rfl, _, _, rfl, _, _, rfl, rfl, ?_⟩
    refine ⟨_, rfl, _, rfl, _, _, rfl, rfl, (by show (0 : Int) < 2; decide), sp, _, _, _, rfl, rfl, hys, (by rw [show ((i : Int) % 2) = ((i % 2 : Nat) : Int) by omega]; exact atI_nat eb), b, _, _, _, rfl, rfl, hb, at1' _ _ _, _, rfl, (c : Int), v.1, rfl, v.2, fun g => ?_, fun g dx H' s' hx => ?_⟩
    · exact ⟨_, _, rfl, sP, k1 (by rw [ec]; exact g)⟩
    · exact q2 v.1 (k2 (by rw [ec]; exact g)) dx H' (Same.trans sP s') hx
  · rintro σ G ⟨v2, v3, rfl, sG, lk⟩
    rw [lt, List.drop_length] at lk
    exact q1 lk.symm G sG
theorem scNe : FnScope ["net", "speech", "rule", "tie"] ["net"] (defScope sMNet) := ⟨rfl, rfl, rfl, by decide +kernel, rfl, by decide +kernel, by decide +kernel⟩
theorem ok_mnet {f fS fP fT : Addr} {fd fdS fdP fdT : FuncData} (F : Fun K "must_net" "must_net" sMNet f fd) (c : XCls K cN) (hi : PySem.W.findIn K (.ref cN) "__init__" = some (some (.builtin "ValueError.__init__"))) (mC : mg "NoNet" = some (.ref cN))
    (GS : FnOk P w K mg base (CXx P w) 6 fS fdS ["speech", "saying"] (spMS K cF cV cT)) (bS : Binds K fdS ["speech", "saying"] []) (kS : PySem.W.keepIn K (.ref fS) = true) (mS : mg "must_saying" = some (.ref fS))
    (GP : FnOk P w K mg base (CXx P w) 4 fP fdP ["saying"] (spMPl K cP)) (bP : Binds K fdP ["saying"] []) (kP : PySem.W.keepIn K (.ref fP) = true) (mP : mg "must_plain" = some (.ref fP))
    (GT : FnOk P w K mg base (CXx P w) 4 fT fdT ["speech", "tie"] (spTie K cV)) (bT : Binds K fdT ["speech", "tie"] []) (kT : PySem.W.keepIn K (.ref fT) = true) (mT : mg "must_tie" = some (.ref fT)) (ml : mg "len" = none) :
    FnOk P w K mg base (CXx P w) 7 f fd ["net"] (spMN K cF cV cT cP cN) := by
  refine F.okX scNe (fun vs H Q E h => ?_) (fun cdv A outer s H vs Q E hr h => ?_)
  · obtain ⟨x, n, rfl, _⟩ := h
    rfl
  obtain ⟨x, n, rfl, hx, nk, q1, q2⟩ := h
  refine ⟨_, pss_cons (ps_set (i := 1) scNe.nd rfl (Or.inl rfl) (pe_ix ix_tup (pv 0) pe_int (fun _ _ => rfl)))
    (pss_cons (ps_if (pt_cmpR op_lt (pe_callB call_len_seq rfl ml PySem.boot_len (pa_cons (pv 1) pa_nil)) pe_int (nomark _)) (pss_one (ps_raise c (pe_makeB c hi rfl mC (pa_cons pe_str pa_nil)))) pss_nil)
    (pss_cons (ps_if (pt_cmpR op_ne (pe_callB call_len_seq rfl ml PySem.boot_len (pa_cons (pe_ix ix_tup (pv 0) pe_int (fun _ _ => rfl)) pa_nil)) (pe_ix ix_tup (pe_ix ix_tup (pv 1) pe_int (fun _ _ => rfl)) pe_int (fun _ _ => rfl)) (nomark _)) (pss_one (ps_raise c (pe_makeB c hi rfl mC (pa_cons pe_str pa_nil)))) pss_nil)
    (pss_cons (ps_for PassesOwn.leaving rfl (pi_tup (pe_ix ix_tup (pv 0) pe_int (fun _ _ => rfl))) (pg_name (i := 2) scNe.nd rfl (Or.inl rfl))
      (pss_cons (ps_expr (pe_call GS hr rfl mS kS bS .nil passX (pa_cons (pv 1) (pa_cons (pv 2) pa_nil)))) (pss_one (ps_expr (pe_call GP (hr.mono (by decide)) rfl mP kP bP .nil passX (pa_cons (pv 2) pa_nil))))))
    (pss_one (ps_for PassesOwn.leaving rfl (pi_tup (pe_ix ix_tup (pv 0) pe_int (fun _ _ => rfl))) (pg_name (i := 3) scNe.nd rfl (Or.inl rfl))
      (pss_one (ps_expr (pe_call GT (hr.mono (by decide)) rfl mT kT bT .nil passX (pa_cons (pv 1) (pa_cons (pv 3) pa_nil)))))))))), ?_⟩
  obtain ⟨a, sp, rp, tp, rs, ts, rfl, ha, hsp, hrp, hrs, htp, hts⟩ := net_open hx
  obtain ⟨sp', ys, es, hys, hyd⟩ := Hold.tupI hsp
  cases es
  have lw : ys.length = n.ws.length := by rw [hyd.length, List.length_map]
  have lr : rs.length = n.rules.length := by rw [hrs.length, List.length_map]
  have lts : ts.length = n.ties.length := by rw [hts.length, List.length_map]
  have bad : n.low = true → ∀ e, H e = none → E (.ref cN) none (del (upd H e (XNew e cN none)) e) := fun lo e he => (show ∀ H', Same H H' → E (.ref cN) none H' from q2 .net (if_pos lo)) _ (del_new he)
  refine ⟨_, rfl, a, _, _, _, rfl, rfl, ha, at0' _ _, ?_⟩
  refine ⟨_, rfl, sp, _, rfl, .inr hys, _, _, rfl, rfl, _, rfl, ?_⟩
  refine ite2 (fun c0 => ?_) (fun c0 => ?_)
  · have c1 : ((ys.length : Nat) : Int) < 2 := of_decide_eq_true c0
    refine ⟨(by show 1 ≤ 100; decide), fun e he => ⟨e, none, rfl, upd_same, he, bad ?_ e he⟩⟩
    unfold Net.low
    rw [decide_eq_true (show n.ws.length < 2 by omega)]; rfl
  have w2 : 2 ≤ n.ws.length := by
    have : ¬ ((ys.length : Nat) : Int) < 2 := fun z => c0 (decide_eq_true z)
    omega
  obtain ⟨ys', b, x0, c0', hys', ly', eb, hb, ew⟩ := cnt_open hsp (i := 0) (by omega)
  have ec : cnt n.ws 0 = c0' := cnt_eq ew
  refine ⟨_, rfl, a, _, _, _, rfl, rfl, ha, at1' _ _ _, rp, _, rfl, .inr hrp, _, rfl, sp, _, _, _, rfl, rfl, hys', atI_nat (j := 0) eb, b, _, _, _, rfl, rfl, hb, at1' _ _ _, rfl, _, rfl, ?_⟩
  refine ite2 (fun c1 => ?_) (fun c1 => ?_)
  · have c2 : ¬ (V.int ((rs.length : Nat) : Int) = V.int (c0' : Int)) := by simpa using c1
    refine ⟨(by show 1 ≤ 100; decide), fun e he => ⟨e, none, rfl, upd_same, he, bad ?_ e he⟩⟩
    unfold Net.low
    have z : n.rules.length ≠ cnt n.ws 0 := fun z => c2 (by rw [lr, z, ec])
    rw [decide_eq_true z, Bool.or_true]
  have c2 : V.int ((rs.length : Nat) : Int) = V.int (c0' : Int) := by simpa using c1
  have c3 : n.rules.length = cnt n.ws 0 := by
    have z : ((rs.length : Nat) : Int) = (c0' : Int) := by injection c2
    rw [ec]; omega
  have lo : n.low = false := by
    unfold Net.low
    rw [decide_eq_false (show ¬ n.ws.length < 2 by omega), decide_eq_false (show ¬ n.rules.length ≠ cnt n.ws 0 from fun z => z c3)]; rfl
  have eD : n.due = (n.rules.findSome? (Say.rdue n.ws)).or (n.ties.findSome? (tdue n.ws)) := by
    unfold Net.due
    rw [if_neg (by rw [lo]; decide)]
  refine ⟨_, rfl, a, _, _, _, rfl, rfl, ha, at1' _ _ _, rp, rfl, ⟨_, hrp⟩, for_tup (K := K) (a := rp) (xs := rs) (fun i σ G => ∃ v2 : Option V, σ = [some (.ref a), some (.ref sp), v2, none] ∧ Same H G ∧ (n.rules.drop i).findSome? (Say.rdue n.ws) = n.rules.findSome? (Say.rdue n.ws))
    ⟨none, rfl, Same.refl _, rfl⟩ (fun i σ G _ ⟨_, _, sG, _⟩ => hrp.same sG) ?_ ?_⟩
  · rintro i y σ G hy ⟨v2, rfl, sG, lk⟩
    obtain ⟨sy, ey, hsy⟩ := hrs.getm hy
    have z5 := nk.size sy (List.mem_of_getElem? ey)
    obtain ⟨n1, n2⟩ := find_at ey lk
    refine ⟨_, rfl, _, rfl, sp, y, n.ws, sy, rfl, Hold.mono sG hsp, Hold.mono sG hsy, z5, fun dn G2 s2 => ?_, fun f df => ?_⟩
    · have s12 := Same.trans sG s2
      refine ⟨_, rfl, y, sy, rfl, Hold.mono s12 hsy, z5, fun nz G3 s3 => ?_, fun nz dx y' G3 s3 hd hh => ?_⟩
      · refine ⟨_, rfl, Same.trans s12 s3, n2 ?_⟩
        unfold Say.rdue
        rw [dn]
        exact if_pos nz
      · have r0 : sy.rdue n.ws = some (.plain sy) := by
          unfold Say.rdue
          rw [dn]
          exact if_neg nz
        have := q2 (.plain sy) (by rw [eD, n1 _ r0]; rfl)
        exact this dx y' G3 (Same.trans s12 s3) hd hh
    · have r0 : sy.rdue n.ws = some (.flt f) := by
        unfold Say.rdue
        rw [df]
      exact FOut.later (show FOut K H E cF cV cT f from q2 (.flt f) (by rw [eD, n1 _ r0]; rfl)) sG
  · rintro σ G ⟨v2, rfl, sG, lk⟩
    rw [lr, List.drop_length] at lk
    have eD2 : n.due = n.ties.findSome? (tdue n.ws) := by rw [eD, ← lk]; rfl
    refine ⟨_, rfl, a, _, _, _, rfl, rfl, ha.same sG, at2' _ _ _ _, tp, rfl, ⟨_, htp.same sG⟩, for_tup (K := K) (a := tp) (xs := ts) (fun i σ G' => ∃ v3 : Option V, σ = [some (.ref a), some (.ref sp), v2, v3] ∧ Same H G' ∧ (n.ties.drop i).findSome? (tdue n.ws) = n.ties.findSome? (tdue n.ws))
      ⟨none, rfl, sG, rfl⟩ (fun i σ G _ ⟨_, _, sG, _⟩ => htp.same sG) ?_ ?_⟩
    · rintro i y σ G1 hy ⟨v3, rfl, sG1, lk1⟩
      obtain ⟨t, et, hty⟩ := hts.getm hy
      obtain ⟨n1, n2⟩ := find_at et lk1
      obtain ⟨ya, _, ey, _, _⟩ := Hold.tupI hty
      subst ey
      refine ⟨_, rfl, _, rfl, sp, ya, n.ws, t, rfl, Hold.mono sG1 hsp, w2, Hold.mono sG1 hty, fun bn G2 s2 => ?_, fun v bv dx G2 s2 hd => ?_⟩
      · refine ⟨_, rfl, Same.trans sG1 s2, n2 ?_⟩
        unfold tdue
        rw [bn]; rfl
      · have r0 : tdue n.ws t = some (.flt (.value v)) := by unfold tdue; rw [bv]; rfl
        have := (show FOut K H E cF cV cT (.value v) from q2 (.flt (.value v)) (by rw [eD2, n1 _ r0]))
        exact this dx G2 (Same.trans sG1 s2) hd
    · rintro σ G1 ⟨v3, rfl, sG1, lk1⟩
      rw [lts, List.drop_length] at lk1
      exact q1 (by rw [eD2, ← lk1]; rfl) G1 sG1
theorem scHo : FnScope ["net", "letter", "count"] ["net", "letter", "count"] (defScope sHops) := ⟨rfl, rfl, rfl, by decide +kernel, rfl, by decide +kernel, by decide +kernel⟩
theorem ok_hops {f fN : Addr} {fd fdN : FuncData} (F : Fun K "hops" "hops" sHops f fd) (GN : FnOk P w K mg base (CXx P w) 7 fN fdN ["net"] (spMN K cF cV cT cP cN)) (bN : Binds K fdN ["net"] []) (kN : PySem.W.keepIn K (.ref fN) = true) (mN : mg "must_net" = some (.ref fN)) :
    FnOk P w K mg base (CXx P w) 8 f fd ["net", "letter", "count"] (spBad K cF cV cT cP cN 2) := by
  refine F.okX scHo (fun vs H Q E h => ?_) (fun cdv A outer s H vs Q E hr h => ?_)
  · obtain ⟨x, rest, n, ff, rfl, hl, _⟩ := h
    rw [List.length_cons, hl]; rfl
  obtain ⟨x, rest, n, ff, rfl, hl, hx, nk, du, o⟩ := h
  match rest, hl with
  | [y1, y2], _ =>
    refine ⟨_, pss_cons (ps_expr (pe_call GN hr rfl mN kN bN .nil passX (pa_cons (pv 0) pa_nil))) pss_no, ?_⟩
    exact ⟨_, rfl, x, n, rfl, hx, nk, (fun z => by rw [du] at z; cases z), (fun f' z => by rw [du] at z; cases z; exact o)⟩
theorem scSf : FnScope ["net", "speech", "step", "onward"] ["net"] (defScope sSayOf) := ⟨rfl, rfl, rfl, by decide +kernel, rfl, by decide +kernel, by decide +kernel⟩
theorem ok_sayof {f fN : Addr} {fd fdN : FuncData} (F : Fun K "saying_of" "saying_of" sSayOf f fd) (GN : FnOk P w K mg base (CXx P w) 7 fN fdN ["net"] (spMN K cF cV cT cP cN)) (bN : Binds K fdN ["net"] []) (kN : PySem.W.keepIn K (.ref fN) = true) (mN : mg "must_net" = some (.ref fN)) :
    FnOk P w K mg base (CXx P w) 8 f fd ["net"] (spBad K cF cV cT cP cN 0) := by
  refine F.okX scSf (fun vs H Q E h => ?_) (fun cdv A outer s H vs Q E hr h => ?_)
  · obtain ⟨x, rest, n, ff, rfl, hl, _⟩ := h
    rw [List.length_cons, hl]; rfl
  obtain ⟨x, rest, n, ff, rfl, hl, hx, nk, du, o⟩ := h
  match rest, hl with
  | [], _ =>
    refine ⟨_, pss_cons (ps_expr (pe_call GN hr rfl mN kN bN .nil passX (pa_cons (pv 0) pa_nil))) pss_no, ?_⟩
    exact ⟨_, rfl, x, n, rfl, hx, nk, (fun z => by rw [du] at z; cases z), (fun f' z => by rw [du] at z; cases z; exact o)⟩
theorem scTb : FnScope ["net"] ["net"] (defScope sTabs) := ⟨rfl, rfl, rfl, by decide +kernel, rfl, by decide +kernel, by decide +kernel⟩
theorem ok_tabs {f fN : Addr} {fd fdN : FuncData} (F : Fun K "tables_of" "tables_of" sTabs f fd) (GN : FnOk P w K mg base (CXx P w) 7 fN fdN ["net"] (spMN K cF cV cT cP cN)) (bN : Binds K fdN ["net"] []) (kN : PySem.W.keepIn K (.ref fN) = true) (mN : mg "must_net" = some (.ref fN)) :
    FnOk P w K mg base (CXx P w) 8 f fd ["net"] (spBad K cF cV cT cP cN 0) := by
  refine F.okX scTb (fun vs H Q E h => ?_) (fun cdv A outer s H vs Q E hr h => ?_)
  · obtain ⟨x, rest, n, ff, rfl, hl, _⟩ := h
    rw [List.length_cons, hl]; rfl
  obtain ⟨x, rest, n, ff, rfl, hl, hx, nk, du, o⟩ := h
  match rest, hl with
  | [], _ =>
    refine ⟨_, pss_cons (ps_expr (pe_call GN hr rfl mN kN bN .nil passX (pa_cons (pv 0) pa_nil))) pss_no, ?_⟩
    exact ⟨_, rfl, x, n, rfl, hx, nk, (fun z => by rw [du] at z; cases z), (fun f' z => by rw [du] at z; cases z; exact o)⟩
end
end S7


set_option Elab.async false
set_option maxRecDepth 100000
set_option maxHeartbeats 4000000
/-! k72: a net is drawn -/
namespace L2
open PySem PySem.Spec PyProof.Rows
/-- a block that closes over names of the def around it -/
theorem cs_of {X : Cx} {ns ys : List Str} {fr : List Nat} {sc : Scope} {cl : List (Str × Addr)} (L : List (Str × NameKind)) (clos : closureFor sc X.env = pure cl) (kind : sc.kind = .function) (nocell : ∀ y ∈ sc.names, y.2 ≠ .cell) (locs : ∀ y ∈ sc.names, y.2 = .local → sc.names.lookup y.1 = some .local)
    (sub : ∀ p ∈ cl, X.env.cells.lookup p.1 = some p.2) (eL : (relabel sc X.env).names = L) (hL : ∀ p ∈ L, p.2 = .cell ∨ p.2 = .free → ∃ c, cl.lookup p.1 = some c) (len : fr.length = ys.length)
    (outs : ∀ (j : Nat) (y : Str), ys[j]? = some y → ∃ i : Nat, fr[j]? = some i ∧ X.N[i]? = some y ∧ (X.env.kindOf y = some .cell ∨ X.env.kindOf y = some .free) ∧ ((relabel sc X.env).names.lookup y = some .cell ∨ (relabel sc X.env).names.lookup y = some .free)) : CScope X ns ys fr sc cl where
  clos := clos
  kind := kind
  nocell := nocell
  locs := locs
  sub := sub
  has := fun y h => by
    rw [eL] at h
    rcases h with h | h
    · exact hL _ (look_mem h) (.inl rfl)
    · exact hL _ (look_mem h) (.inr rfl)
  len := len
  outs := outs
end L2
namespace S7
open PySem L2
structure NetDr (n : Net) : Prop where
  sk : SpeechOk n.ws
  rl : n.rules.length ≤ 6
  sz : ∀ s ∈ n.rules, s.size ≤ 50
  tl : n.ties.length ≤ 6
  four : ∀ t ∈ n.ties, t.length = 4
def spNet (K : PySem.W.Frag) : Sp := fun vs H Q _ => ∃ (a : Addr) (k : Int) (ns : List Int), vs = [.ref a, .int k] ∧ SqL K H a (ns.map V.int) ∧ 0 ≤ k ∧ ns.length ≤ 63 ∧ ∀ (y : V) (n : Net) (H' : Hp), Same H H' → Hold K H' y n.da → NetDr n → Q y H'
abbrev nNe : List Str := ["_law_script", "_law_at", "_law_speech_here", "_law_many", "_law_rules", "_law_k", "_law_ties", "_law_purse_here"]
def scTi4 : Scope := { kind := .function, names := [(".0", .local), ("_law_place", .local), ("_law_take", .globalImplicit), ("_law_purse_here", .free), ("_law_speech_here", .free)], isGenerator := false, isCoroutine := false, more := [] }
theorem cut_int {ns : List Int} {lo hi : Option Int} : ∀ x ∈ cutV (ns.map V.int) lo hi, ∃ n, x = V.int n := fun x z => by
  unfold cutV at z
  obtain ⟨n, _, e'⟩ := List.mem_map.mp (List.mem_of_mem_drop (List.mem_of_mem_take z))
  exact ⟨n, e'.symm⟩
theorem cut_7 (xs : List V) (i j : Nat) (h : j ≤ i + 7) : (cutV xs (some (i : Int)) (some (j : Int))).length ≤ 22 := by
  unfold cutV
  rw [List.length_take, HT.sIx_nat, HT.sIx_nat, List.length_drop]
  omega
section
variable {P : Program} {w : World} {K : PySem.W.Frag} {mg : Str → Option Value} {base : Heap}
theorem scNd : FnScope nNe ["_law_script", "_law_at"] (defScope sNet) := ⟨rfl, rfl, rfl, by decide +kernel, rfl, by decide +kernel, by decide +kernel⟩
theorem cNd {CX : CXT} {f : Addr} {cdv : Value} {A : Around} {outer : List Env} {s : Shared} {H : Hp} {E : XK} :
    CScope (cxOf CX P w K mg base nNe "_law_net" (defScope sNet) f cdv A outer s H E).nox ["_law_place"] ["_law_purse_here", "_law_speech_here"] [7, 2] scTi4 [("_law_speech_here", s.heap.objs.size + 1), ("_law_purse_here", s.heap.objs.size + 1 + 1)] := by
  refine cs_of [(".0", .local), ("_law_place", .local), ("_law_take", .globalImplicit), ("_law_purse_here", .cell), ("_law_speech_here", .cell)] (by with_unfolding_all rfl) rfl (by decide +kernel) (by decide +kernel) (fun p hp => ?_) (by with_unfolding_all rfl) (fun p hp hk => ?_) rfl (fun j y e => ?_)
  · rcases List.mem_cons.mp hp with z | z
    · subst z; with_unfolding_all rfl
    · cases List.mem_singleton.mp z
      with_unfolding_all rfl
  · simp only [List.mem_cons, List.not_mem_nil, or_false] at hp
    rcases hp with z | z | z | z | z
    · subst z; rcases hk with q | q <;> cases q
    · subst z; rcases hk with q | q <;> cases q
    · subst z; rcases hk with q | q <;> cases q
    · subst z; exact ⟨_, by with_unfolding_all rfl⟩
    · subst z; exact ⟨_, by with_unfolding_all rfl⟩
  · match j, e with
    | 0, e =>
      have y' : ("_law_purse_here" : Str) = y := Option.some.inj e
      subst y'
      exact ⟨7, rfl, rfl, .inl (by with_unfolding_all rfl), .inl (by with_unfolding_all rfl)⟩
    | 1, e =>
      have y' : ("_law_speech_here" : Str) = y := Option.some.inj e
      subst y'
      exact ⟨2, rfl, rfl, .inl (by with_unfolding_all rfl), .inl (by with_unfolding_all rfl)⟩
theorem ok_net {f fC fS fY fP fT : Addr} {fd dC dS dY dP dT : FuncData} (F : Fun K "_law_net" "_law_net" sNet f fd)
    (GC : FnOk P w K mg base CX0 1 fC dC ["_law_script", "_law_k"] (spCell K)) (bC : Binds K dC ["_law_script", "_law_k"] []) (kC : PySem.W.keepIn K (.ref fC) = true) (mC : mg "_law_cell" = some (.ref fC))
    (GS : FnOk P w K mg base CX0 2 fS dS ["_law_cell_here", "_law_least"] (spSpeech K)) (bS : Binds K dS ["_law_cell_here", "_law_least"] []) (kS : PySem.W.keepIn K (.ref fS) = true) (mS : mg "_law_speech" = some (.ref fS))
    (GY : FnOk P w K mg base CX0 4 fY dY ["_law_cells", "_law_speech_here", "_law_most"] (spSaying K)) (bY : Binds K dY ["_law_cells", "_law_speech_here", "_law_most"] []) (kY : PySem.W.keepIn K (.ref fY) = true) (mY : mg "_law_saying" = some (.ref fY))
    (GP : FnOk P w K mg base CX0 1 fP dP ["_law_cell_here"] spPurse) (bP : Binds K dP ["_law_cell_here"] []) (kP : PySem.W.keepIn K (.ref fP) = true) (mP : mg "_law_purse" = some (.ref fP))
    (GT : FnOk P w K mg base CX0 1 fT dT ["_law_purse_here", "_law_many"] spTake) (bT : Binds K dT ["_law_purse_here", "_law_many"] []) (kT : PySem.W.keepIn K (.ref fT) = true) (mT : mg "_law_take" = some (.ref fT))
    (mr : mg "range" = none) (mt : mg "tuple" = none) : FnOk P w K mg base CX0 5 f fd ["_law_script", "_law_at"] (spNet K) := by
  refine F.ok scNd (fun vs H Q E h => ?_) (fun cdv A outer s H vs Q E hr h => ?_)
  · obtain ⟨a, k, ns, rfl, _⟩ := h
    rfl
  obtain ⟨a, k, ns, rfl, hS, k0, n63, q⟩ := h
  have hr1 : Room 1 _ := hr.mono (by decide)
  refine ⟨_, pss_cons (ps_set (i := 2) scNd.nd rfl (Or.inr rfl) (pe_call GS (hr.mono (by decide)) rfl mS kS bS .nil pass0 (pa_cons (pe_call GC hr1 rfl mC kC bC .nil pass0 (pa_cons (pv 0) (pa_cons (pv 1) pa_nil))) (pa_cons pe_int pa_nil))))
    (pss_cons (ps_set (i := 3) scNd.nd rfl (Or.inl rfl) (pe_ix ix_tup (pe_ix ix_tup (pv 2) pe_int (fun _ _ => rfl)) pe_int (fun _ _ => rfl)))
    (pss_cons (ps_set (i := 4) scNd.nd rfl (Or.inl rfl) (pe_lst pa_nil))
    (pss_cons (ps_for PassesOwn.never rfl (pi_range1 rfl mr (pa_cons (pv 3) pa_nil)) (pg_name (i := 5) scNd.nd rfl (Or.inl rfl))
      (pss_one (ps_expr (pe_bm PySem.F.plainAttrs_list PySem.F.slot_list_append PySem.F.type_list_append mt_append (pv 4)
        (pa_cons (pe_call GY hr rfl mY kY bY .nil pass0 (pa_cons (pe_slice sl_list (pv 0) (po_some (pe_op op_add (pe_op op_add (pv 1) pe_int) (pe_op op_mul pe_int (pv 5)))) (po_some (pe_op op_add (pe_op op_add (pv 1) pe_int) (pe_op op_mul pe_int (pv 5))))) (pa_cons (pv 2) (pa_cons pe_int pa_nil)))) pa_nil)))))
    (pss_cons (ps_set (i := 6) scNd.nd rfl (Or.inl rfl) (pe_lst pa_nil))
    (pss_cons (ps_for PassesOwn.never rfl (pi_range1 rfl mr (pa_cons (pe_op op_mod (pe_call GC hr1 rfl mC kC bC .nil pass0 (pa_cons (pv 0) (pa_cons (pe_op op_add (pv 1) pe_int) pa_nil))) pe_int) pa_nil)) (pg_name (i := 5) scNd.nd rfl (Or.inl rfl))
      (pss_cons (ps_set (i := 7) scNd.nd rfl (Or.inr rfl) (pe_call GP hr1 rfl mP kP bP .nil pass0 (pa_cons (pe_call GC hr1 rfl mC kC bC .nil pass0 (pa_cons (pv 0) (pa_cons (pe_op op_add (pe_op op_add (pv 1) pe_int) (pv 5)) pa_nil))) pa_nil)))
      (pss_one (ps_expr (pe_bm PySem.F.plainAttrs_list PySem.F.slot_list_append PySem.F.type_list_append mt_append (pv 6)
        (pa_cons (pe_callTy call_tuple_of rfl mt (by kernel_rfl) (pa_cons (pe_comp (ns := ["_law_place"]) (ys := ["_law_purse_here", "_law_speech_here"]) (sc := scTi4) cNd rfl (pi_range1 rfl mr (pa_cons pe_int pa_nil)) (fun C s H fp => pg_name (i := 0) (by show (["_law_place", "_law_purse_here", "_law_speech_here"] : List Str).Nodup; decide +kernel) rfl (Or.inl rfl)) (fun C s H fp => pts_nil)
          (fun C s H fp => pe_call GT hr1 rfl mT kT bT .nil pass0 (pa_cons (pv 1) (pa_cons (pe_ix (r := rIxT K) ix_tup (pe_ix (r := rIxT K) ix_tup (pv 2) (pe_op op_mod (pv 0) pe_int) (fun _ _ => rfl)) pe_int (fun _ _ => rfl)) pa_nil)))) pa_nil)) pa_nil))))))
    (pss_one (ps_ret (pe_tup (pc_n (pv 2) (pc_a (pe_callTy call_tuple_of rfl mt (by kernel_rfl) (pa_cons (pv 4) pa_nil)) (pc_a (pe_callTy call_tuple_of rfl mt (by kernel_rfl) (pa_cons (pv 6) pa_nil)) pa_nil))))))))))), ?_⟩
  refine ⟨_, rfl, _, rfl, a, k, ns, rfl, hS, k0, fun c0 => ?_⟩
  refine ⟨c0, 2, rfl, by decide, by decide, fun sp ws G1 s1 hsp sk l2 => ?_⟩
  have w2 : 2 ≤ ws.length := by omega
  have w3 := sk.hi
  obtain ⟨ys0, b0, x0, c0', hys0, ly0, eb0, hb0, ew0⟩ := cnt_open hsp (i := 0) (by omega)
  have h60 := sk.cnt _ (List.mem_of_getElem? ew0)
  have h60' : 1 ≤ c0' ∧ c0' ≤ 6 := h60
  refine ⟨_, rfl, sp, _, _, _, rfl, rfl, hys0, atI_nat (j := 0) eb0, b0, _, _, _, rfl, rfl, hb0, at1' _ _ _, ?_⟩
  refine ⟨(by show 0 ≤ sizeLine; decide), fun u hu => ?_⟩
  have hu1 : G1 u = none := hu
  refine ⟨_, rfl, (c0' : Int), rfl, by omega, by omega, for_range (n := ((c0' : Nat) : Int).toNat) (fun i σ G => ∃ (rules : List Say) (xs : List V) (v5 : Option V), σ = [some (.ref a), some (.int k), some (.ref sp), some (.int (c0' : Int)), some (.ref u), v5, none, none] ∧ Same G1 G ∧ G u = some (.lst xs) ∧ Holds K G xs (rules.map Say.da) ∧ rules.length = i ∧ ∀ s ∈ rules, s.size ≤ 50) ?_ ?_ ?_⟩
  · exact ⟨[], [], none, rfl, same_new hu _, upd_same, .nil, rfl, fun s hs => nomatch hs⟩
  · rintro i σ G hi ⟨rules, xs, v5, rfl, sG, gu, hd, ll, sz⟩
    have lx : xs.length = i := by rw [hd.length, List.length_map, ll]
    have e1 : k + 8 + 7 * (0 + (i : Int)) = (((k.toNat + 8 + 7 * i : Nat)) : Int) := by omega
    have e2 : k + 15 + 7 * (0 + (i : Int)) = (((k.toNat + 15 + 7 * i : Nat)) : Int) := by omega
    refine ⟨_, rfl, .inl ⟨rfl, _, SqL.of gu⟩, _, rfl, _, rfl, _, _, rfl, rfl, _, rfl, _, _, rfl, rfl, .inl ⟨by decide, by decide⟩, _, _, rfl, rfl, _, rfl, _, rfl, _, _, rfl, rfl, _, rfl, _, _, rfl, rfl, .inl ⟨by decide, by decide⟩, _, _, rfl, rfl, _, rfl, a, _, rfl, (Same.trans s1 sG).seq hS, fun p0 hp0 => ?_⟩
    have s2 := same_new hp0 (.lst (cutV (ns.map V.int) (some (k + 8 + 7 * (0 + (i : Int)))) (some (k + 15 + 7 * (0 + (i : Int))))))
    refine ⟨_, rfl, p0, sp, 0, _, ws, rfl, SqL.of upd_same, cut_int, (by rw [e1, e2]; exact cut_7 _ _ _ (by omega)), Hold.mono (Same.trans sG s2) hsp, sk, fun y sy G2 s3 hy h50 => ?_⟩
    have gu2 := s3 _ _ (s2 _ _ gu)
    refine ⟨u, xs, y, rfl, rfl, gu2, small1000 (by omega), ?_⟩
    have tN : Tups G2 (upd G2 u (.lst (xs ++ [y]))) := Tups.put gu2 _
    have t0 : Tups G (upd G2 u (.lst (xs ++ [y]))) := (Tups.of (Same.trans s2 s3)).trans tN
    refine ⟨rules ++ [sy], xs ++ [y], _, rfl, Same.put (Same.trans sG (Same.trans s2 s3)) hu1 _, upd_same, ?_, (by rw [List.length_append, ll]; rfl), fun s hs => ?_⟩
    · rw [List.map_append]
      exact Holds.append (Holds.stay t0 (fixL_map da_fix _) hd) (.one (Hold.stay tN (da_fix sy) hy))
    · rcases List.mem_append.mp hs with z | z
      · exact sz s z
      · rw [List.mem_singleton.mp z]; exact h50
  rintro σ G2 ⟨rules, xs, v5, rfl, s2, gu, hd, ll, sz⟩
  have ll6 : rules.length ≤ 6 := by omega
  refine ⟨(by show 0 ≤ sizeLine; decide), fun u2 hu2 => ?_⟩
  have s2' := Same.trans s2 (same_new hu2 (.lst []))
  have uu : u ≠ u2 := ne_of_none gu hu2
  refine ⟨_, rfl, _, rfl, _, _, rfl, rfl, a, k + 1, ns, rfl, (Same.trans s1 s2').seq hS, by omega, fun c1 => ?_⟩
  have r7 := emod_rng c1 (m := 7) (by decide)
  refine ⟨_, _, rfl, rfl, (by show (0 : Int) < 7; decide), c1 % 7, rfl, by omega, by omega, for_range (n := (c1 % 7).toNat) (fun i σ G => ∃ (ties : List (List Num)) (zs : List V) (v5 v7 : Option V), σ = [some (.ref a), some (.int k), some (.ref sp), some (.int (c0' : Int)), some (.ref u), v5, some (.ref u2), v7] ∧ Same G2 G ∧ G u2 = some (.lst zs) ∧ Holds K G zs (ties.map tieD) ∧ ties.length = i ∧ ∀ t ∈ ties, t.length = 4) ?_ ?_ ?_⟩
  · exact ⟨[], [], _, _, rfl, same_new hu2 _, upd_same, .nil, rfl, fun s hs => nomatch hs⟩
  · rintro i σ G hi ⟨ties, zs, v5, v7, rfl, sG, gu2, hdz, lt, f4⟩
    have lz : zs.length = i := by rw [hdz.length, List.length_map, lt]
    have sA : Same G1 G := Same.trans s2 sG
    refine ⟨_, rfl, _, rfl, _, _, rfl, rfl, _, rfl, _, _, rfl, rfl, a, k + 2 + (0 + (i : Int)), ns, rfl, (Same.trans s1 sA).seq hS, by omega, fun c2 => ?_⟩
    refine ⟨c2, rfl, fun pu a0 b0' hpu ha0 hb0' => ?_⟩
    have gu3 : upd G pu (.lst [.int a0, .int b0']) u2 = some (.lst zs) := same_new hpu _ _ _ gu2
    refine ⟨_, rfl, .inl ⟨rfl, _, SqL.of gu3⟩, ?_⟩
    refine ⟨4, rfl, by decide, by decide, fun D hD => ?_⟩
    have pD : pu ≠ D := ne_of_none upd_same hD
    have uD : u2 ≠ D := ne_of_none gu3 hD
    have up : u2 ≠ pu := ne_of_none gu2 hpu
    have hp2 : G2 pu = none := Same.free sG hpu
    have hD2 : G D = none := by
      have := Same.free (same_new hpu (.lst [.int a0, .int b0'])) hD
      exact this
    refine comp_range (n := 4) (fun j vs G3 => ∃ (is : List Int) (a b : Int), vs = is.map V.int ∧ is.length = j ∧ (∀ z ∈ is, z.natAbs.log2 < 1000) ∧ (∀ c o, c ≠ pu → c ≠ D → G c = some o → G3 c = some o) ∧ G3 D = some (.lst vs) ∧ G3 pu = some (.lst [.int a, .int b]) ∧ 0 ≤ a ∧ 0 ≤ b)
      ⟨[], a0, b0', rfl, rfl, (fun z hz => nomatch hz), (fun c o h1 h2 e => by rw [upd_ne h2, upd_ne h1]; exact e), upd_same, (by rw [upd_ne pD, upd_same]), ha0, hb0'⟩ (fun j vs G3 ⟨_, _, _, _, _, _, _, z, _⟩ => z) ?_ ?_
    · rintro j vs G3 hj ⟨is, a3, b3, rfl, lj, sm, kp, gD, gp, ha3, hb3⟩
      have kG : Tups G G3 := ⟨fun c o e => kp c _ (fun z => by rw [z, hpu] at e; cases e) (fun z => by rw [z, hD2] at e; cases e) e, fun c o v e => kp c _ (fun z => by rw [z, hpu] at e; cases e) (fun z => by rw [z, hD2] at e; cases e) e⟩
      have j2 : j % 2 < ws.length := Nat.lt_of_lt_of_le (Nat.mod_lt _ (by decide)) w2
      have hsp3 : Hold K G3 (.ref sp) (speechD ws) := Hold.stay kG (by unfold speechD; rw [Da.fix]; exact fixL_map (fun _ => rfl) ws) (Hold.mono sA hsp)
      obtain ⟨ys, b, x, c, hys, ly, eb, hb, ew⟩ := cnt_open hsp3 j2
      have h6 : 1 ≤ c ∧ c ≤ 6 := sk.cnt _ (List.mem_of_getElem? ew)
      refine ⟨small1000 (by rw [List.length_map]; omega), ⟨[some _], rfl, rfl⟩, ?_⟩
      refine ⟨_, rfl, _, rfl, _, rfl, _, _, rfl, rfl, (by show (0 : Int) < 2; decide), sp, _, _, _, rfl, rfl, hys, (by rw [show ((0 + (j : Int)) % 2) = ((j % 2 : Nat) : Int) by omega]; exact atI_nat eb), b, _, _, _, rfl, rfl, hb, at1' _ _ _, ?_⟩
      refine ⟨pu, a3, b3, (c : Int), rfl, gp, ha3, hb3, by omega, by omega, fun v a4 b4 G4 v0 v1 ha4 hb4 g4 k4 => ?_⟩
      have gD4 := k4 _ _ pD.symm gD
      refine ⟨gD4, is ++ [v], a4, b4, by rw [List.map_append]; rfl, by rw [List.length_append, lj]; rfl, fun z hz => ?_, fun c' o h1 h2 e => ?_, upd_same, by rw [upd_ne pD]; exact g4, ha4, hb4⟩
      · rcases List.mem_append.mp hz with w' | w'
        · exact sm z w'
        · rw [List.mem_singleton.mp w']; exact log_small ⟨by omega, by omega⟩
      · rw [upd_ne h2]; exact k4 _ _ h1 (kp c' o h1 h2 e)
    · rintro vs G3 ⟨is, a3, b3, rfl, lj, sm, kp, gD, gp, ha3, hb3⟩
      refine ⟨D, _, rfl, .inl ⟨SqL.of gD, fun t ht => ?_⟩⟩
      obtain ⟨tn, ltn, htn⟩ : ∃ l : List Num, l.length = is.length ∧ Hold K (upd G3 t (.tup (is.map V.int))) (.ref t) (tieD l) := by
        refine ⟨is.attach.map fun z => ⟨z.1, sm z.1 z.2⟩, by simp, ?_⟩
        unfold tieD
        refine .tup (SqT.of upd_same) ?_
        rw [List.map_map]
        have e : is.attach.map ((fun v : Num => Da.flat (.int v.1)) ∘ fun z => ⟨z.1, sm z.1 z.2⟩) = is.map fun v => Da.flat (.int v) := by
          show is.attach.map (fun z => Da.flat (.int z.1)) = _
          rw [List.attach_map_val (f := fun v : Int => Da.flat (.int v))]
        rw [e]
        exact holds_ints is
      have gu5 : upd G3 t (.tup (is.map V.int)) u2 = some (.lst zs) := same_new ht _ _ _ (kp _ _ up uD gu2)
      refine ⟨u2, zs, .ref t, rfl, rfl, gu5, small1000 (by omega), ?_⟩
      have kG : Tups G G3 := ⟨fun c o e => kp c _ (fun z => by rw [z, hpu] at e; cases e) (fun z => by rw [z, hD2] at e; cases e) e, fun c o v e => kp c _ (fun z => by rw [z, hpu] at e; cases e) (fun z => by rw [z, hD2] at e; cases e) e⟩
      have tN : Tups (upd G3 t (.tup (is.map V.int))) (upd (upd G3 t (.tup (is.map V.int))) u2 (.lst (zs ++ [.ref t]))) := Tups.put gu5 _
      have fT : ∀ l : List (List Num), fixL (l.map tieD) = true := fun l => fixL_map (fun t => by unfold tieD; rw [Da.fix]; exact fixL_map (fun _ => rfl) t) l
      refine ⟨ties ++ [tn], zs ++ [.ref t], _, _, rfl, ?_, upd_same, ?_, (by rw [List.length_append, lt]; rfl), fun t' ht' => ?_⟩
      · have hD2' : G2 D = none := Same.free sG hD2
        have ht2 : G2 t = none := by
          cases e9 : G2 t with
          | none => rfl
          | some o9 =>
            have z := kp t o9 (fun z => by rw [z, hp2] at e9; cases e9) (fun z => by rw [z, hD2'] at e9; cases e9) (sG _ _ e9)
            rw [ht] at z; cases z
        have sK : Same G2 G3 := fun c o e => kp c o (fun z => by rw [z, hp2] at e; cases e) (fun z => by rw [z, hD2'] at e; cases e) (sG _ _ e)
        exact Same.put (Same.put sK ht2 _) hu2 _
      · rw [List.map_append]
        exact Holds.append (Holds.stay ((kG.trans (Tups.of (same_new ht _))).trans tN) (fT _) hdz) (.one (Hold.stay tN (by unfold tieD; rw [Da.fix]; exact fixL_map (fun _ => rfl) tn) htn))
      · rcases List.mem_append.mp ht' with z | z
        · exact f4 t' z
        · rw [List.mem_singleton.mp z, ltn, lj]
  · rintro σ G ⟨ties, zs, v5, v7, rfl, sG, gu2, hdz, lt, f4⟩
    have guG := sG _ _ gu
    refine ⟨_, rfl, _, rfl, u, xs, rfl, .inl ⟨SqL.of guG, fun t1 n1 => ?_⟩⟩
    have e1 := same_new n1 (.tup xs)
    refine ⟨_, rfl, u2, zs, rfl, .inl ⟨SqL.of (e1 _ _ gu2), fun t2 n2 => ⟨(by show 3 ≤ sizeLine; decide), fun t3 n3 => ?_⟩⟩⟩
    have e2 := same_new n2 (.tup zs)
    have e3 := same_new n3 (.tup [.ref sp, .ref t1, .ref t2])
    have sX : Same G1 (upd (upd G t1 (.tup xs)) t2 (.tup zs)) := Same.trans (Same.trans s2 sG) (Same.trans e1 e2)
    refine q (.ref t3) ⟨ws, rules, ties⟩ _ (Same.trans s1 (Same.trans sX e3)) ?_ ⟨sk, ll6, sz, by show ties.length ≤ 6; omega, f4⟩
    refine .tup (SqT.of upd_same) (Holds.mono e3 (.cons (Hold.mono sX hsp) (.cons (Hold.mono e2 (.tup (SqT.of upd_same) (Holds.mono (Same.trans sG e1) hd))) (.cons (.tup (SqT.of upd_same) (Holds.mono (Same.trans e1 e2) hdz)) .nil))))
end
end S7


set_option Elab.async false
set_option maxRecDepth 100000
set_option maxHeartbeats 4000000
/-! k72: what the law finds wrong with a net -/
namespace S7
open PySem L2
abbrev leafV : List V := [.str "is", .str "put", .str "all", .str "none", .str "note"]
theorem in_leaf (s : Say) : inV (.str s.sort) leafV = !s.hasK := by cases s <;> kernel_rfl
theorem leaf_nts {s : Say} (h : s.hasK = false) : decide (V.str s.sort = V.str "note") = decide (s.nts ≠ 0) := by
  cases s <;> first | (simp [Say.hasK] at h; done) | kernel_rfl
theorem kid_nts {s : Say} (h : s.hasK = true) : decide (s.nts ≠ 0) = s.kids.any fun k => decide (k.nts ≠ 0) := by
  cases s
  case no t => show decide (t.nts ≠ 0) = (decide (t.nts ≠ 0) || false); rw [Bool.or_false]
  case again t => show decide (t.nts ≠ 0) = (decide (t.nts ≠ 0) || false); rw [Bool.or_false]
  case either a b =>
    show decide (a.nts + b.nts ≠ 0) = (decide (a.nts ≠ 0) || (decide (b.nts ≠ 0) || false))
    rw [Bool.eq_iff_iff]
    simp only [decide_eq_true_iff, Bool.or_eq_true, Bool.false_eq_true, or_false]
    omega
  case both a b =>
    show decide (a.nts + b.nts ≠ 0) = (decide (a.nts ≠ 0) || (decide (b.nts ≠ 0) || false))
    rw [Bool.eq_iff_iff]
    simp only [decide_eq_true_iff, Bool.or_eq_true, Bool.false_eq_true, or_false]
    omega
  all_goals cases h
theorem filt_any (l : List Say) : decide ((0 : Int) < (((l.filter fun k => decide (k.nts ≠ 0)).length : Nat) : Int)) = l.any fun k => decide (k.nts ≠ 0) := by
  induction l with
  | nil => rfl
  | cons a r ih =>
    by_cases h : a.nts ≠ 0
    · rw [List.filter_cons_of_pos (by simpa using h), List.any_cons, decide_eq_true h, List.length_cons, Bool.true_or]
      exact decide_eq_true (by omega)
    · rw [List.filter_cons_of_neg (by simpa using h), List.any_cons, decide_eq_false h, Bool.false_or]
      exact ih
def spHN (K : PySem.W.Frag) (n : Nat) : Sp := fun vs H Q _ => ∃ (x : V) (s : Say), vs = [x] ∧ Hold K H x s.da ∧ s.size ≤ n ∧ ∀ H' : Hp, Same H H' → Q (.bl (decide (s.nts ≠ 0))) H'
def scHN : Scope := { kind := .function, names := [(".0", .local), ("_law_one", .local), ("_law_has_note", .globalImplicit)], isGenerator := false, isCoroutine := false, more := [] }
section
variable {P : Program} {w : World} {K : PySem.W.Frag} {mg : Str → Option Value} {base : Heap}
theorem csHN {X : Cx} : CScope X ["_law_one"] [] [] scHN [] := cs_plain rfl (by decide +kernel) (by decide +kernel) (by decide +kernel)
theorem scLN : FnScope ["_law_saying_here"] ["_law_saying_here"] (defScope sLNote) := ⟨rfl, rfl, rfl, by decide +kernel, rfl, by decide +kernel, by decide +kernel⟩
theorem ok_hn {f : Addr} {fd : FuncData} (F : Fun K "_law_has_note" "_law_has_note" sLNote f fd) (bF : Binds K fd ["_law_saying_here"] []) (kF : PySem.W.keepIn K (.ref f) = true) (mF : mg "_law_has_note" = some (.ref f)) (ml : mg "len" = none) :
    ∀ n : Nat, FnOk P w K mg base CX0 (n + 1) f fd ["_law_saying_here"] (spHN K n)
  | 0 => by
    refine F.ok scLN (fun vs H Q E h => ?_) (fun cdv A outer s H vs Q E hr h => ?_)
    · obtain ⟨x, s, rfl, _⟩ := h
      rfl
    · obtain ⟨x, sy, rfl, hx, hn, q⟩ := h
      have := size_pos sy
      omega
  | n + 1 => by
    have G := ok_hn F bF kF mF ml n
    refine F.ok scLN (fun vs H Q E h => ?_) (fun cdv A outer s H vs Q E hr h => ?_)
    · obtain ⟨x, s, rfl, _⟩ := h
      rfl
    obtain ⟨x, sy, rfl, hx, hn, q⟩ := h
    refine ⟨_, pss_cons (ps_if (pt_cmpR op_in_seq (pe_ix ix_tup (pv 0) pe_int (fun _ _ => rfl)) (pe_lst (pc_c pe_str (pc_c pe_str (pc_c pe_str (pc_c pe_str (pc_c pe_str pa_nil)))))) (by with_unfolding_all rfl)) (pss_one (ps_ret (pe_cmpR op_eq (pe_ix ix_tup (pv 0) pe_int (fun _ _ => rfl)) pe_str (nomark _)))) pss_nil)
      (pss_one (ps_ret (pe_cmpR op_gt (pe_callB call_len_seq rfl ml PySem.boot_len (pa_cons (pe_comp (ns := ["_law_one"]) (ys := []) (sc := scHN) csHN rfl (pi_tup (pe_slice sl_tup (pv 0) (po_some pe_int) po_none))
        (fun C s H fp => pg_name (i := 0) (by show (["_law_one"] : List Str).Nodup; decide +kernel) rfl (Or.inl rfl)) (fun C s H fp => pts_one (pt_val (pe_call G hr rfl mF kF bF .nil pass0 (pa_cons (pv 0) pa_nil))))
        (fun C s H fp => pv 0)) pa_nil)) pe_int (nomark _)))), ?_⟩
    obtain ⟨a, xs, rfl, ha, hk⟩ := da_open hx
    refine ⟨_, rfl, a, _, _, _, rfl, rfl, ha, at0' _ _, (by show 5 ≤ sizeLine; decide), fun l1 hl1 => ⟨l1, leafV, rfl, .inl (SqL.of upd_same), rfl, by decide +kernel, _, rfl, ?_⟩⟩
    show if inV (.str sy.sort) leafV = true then _ else _
    rw [in_leaf]
    have s1 := same_new hl1 (.lst leafV)
    refine ite2 (fun c => ?_) (fun c => ?_)
    · have c1 : sy.hasK = false := by simpa using c
      refine ⟨_, rfl, a, _, _, _, rfl, rfl, ha.same s1, at0' _ _, rfl, ?_⟩
      rw [leaf_nts c1]
      exact q _ s1
    have hK : sy.hasK = true := by simpa using c
    refine ⟨_, rfl, _, rfl, a, _, rfl, ha.same s1, cut_kids, fun p hp => ?_⟩
    rw [cut1]
    have s3 := Same.trans s1 (same_new hp (.tup xs))
    have hk3 := Holds.mono s3 (hk hK)
    refine ⟨p, rfl, ⟨_, SqT.of upd_same⟩, fun D hD => ?_⟩
    generalize hG3 : upd (upd H l1 (.lst leafV)) p (.tup xs) = G3 at hD s3 hk3 ⊢
    have hp3 : G3 p = some (.tup xs) := by rw [← hG3, upd_same]
    have lx : xs.length = sy.kids.length := by rw [hk3.length, List.length_map]
    have l2' := kids_le sy
    refine comp_tup (K := K) (a := p) (xs := xs) (fun i ys G2 => Same G3 G2 ∧ G2 D = some (.lst ys) ∧ ys.length = ((sy.kids.take i).filter fun k => decide (k.nts ≠ 0)).length) ⟨same_new hD _, upd_same, rfl⟩ (fun i ys G2 z => z.2.1) (fun i ys G2 _ z => SqT.of (z.1 _ _ hp3)) ?_ ?_
    · rintro i x' ys G2 hx' ⟨sG, d2, e2⟩
      obtain ⟨k, ek, hk'⟩ := hk3.getm hx'
      have km : k ∈ sy.kids := List.mem_of_getElem? ek
      have kz := kid_size km
      have yl : ys.length ≤ 2 := by
        rw [e2]
        exact Nat.le_trans (List.length_filter_le _ _) (by rw [List.length_take]; omega)
      have e3 : ((sy.kids.take (i + 1)).filter fun k => decide (k.nts ≠ 0)).length = ys.length + (if (decide (k.nts ≠ 0)) = true then 1 else 0) := by
        rw [List.take_add_one, ek, List.filter_append, List.length_append, ← e2]
        by_cases q : k.nts ≠ 0 <;> simp [q]
      refine ⟨small1000 (by omega), ⟨[some _], rfl, rfl⟩, ?_⟩
      refine ⟨_, rfl, x', k, rfl, Hold.mono sG hk', by omega, fun G4 s4 => ⟨_, rfl, ?_⟩⟩
      refine ite2 (fun c => ?_) (fun c => ?_)
      · refine ⟨_, rfl, s4 _ _ d2, Same.put (Same.trans sG s4) hD _, upd_same, ?_⟩
        rw [e3, if_pos c, List.length_append]
        rfl
      · refine ⟨Same.trans sG s4, s4 _ _ d2, ?_⟩
        rw [e3, if_neg c]
        rfl
    · rintro ys G2 ⟨sG, d2, e2⟩
      refine ⟨D, ys, rfl, .inl (SqL.of d2), _, _, rfl, rfl, ?_⟩
      rw [e2, lx, List.take_length]
      have z := q G2 (Same.trans s3 sG)
      rw [kid_nts hK, ← filt_any] at z
      exact z
end
/-- what is told of a net's fault, as a list at r -/
def NDueAt (K : PySem.W.Frag) (H : Hp) (r : Addr) : Option NF → Prop
  | none => H r = some (.lst [])
  | some .net => H r = some (.lst [.str "net", .non])
  | some (.flt f) => DueAt K H r (some f)
  | some (.plain s) => ∃ y, H r = some (.lst [.str "plain", y]) ∧ Hold K H y s.da
structure NetSm (n : Net) : Prop where
  w3 : n.ws.length ≤ 3
  size : ∀ s ∈ n.rules, s.size ≤ 58
  four : ∀ t ∈ n.ties, t.length = 4
def spND (K : PySem.W.Frag) : Sp := fun vs H Q _ => ∃ (x : V) (n : Net), vs = [x] ∧ Hold K H x n.da ∧ NetSm n ∧ ∀ (r : Addr) (H' : Hp), Same H H' → NDueAt K H' r n.due → Q (.ref r) H'
abbrev nND : List Str := ["_law_net_here", "_law_speech_here", "_law_rules", "_law_ties", "_law_rule", "_law_found", "_law_tie", "_law_place"]
section
variable {P : Program} {w : World} {K : PySem.W.Frag} {mg : Str → Option Value} {base : Heap}
theorem scND : FnScope nND ["_law_net_here"] (defScope sNDue) := ⟨rfl, rfl, rfl, by decide +kernel, rfl, by decide +kernel, by decide +kernel⟩
theorem ok_ndue {f fB fH : Addr} {fd fdB fdH : FuncData} (F : Fun K "_law_due" "_law_due" sNDue f fd)
    (GB : FnOk P w K mg base CX0 60 fB fdB ["_law_speech_here", "_law_saying_here"] (spDue K 58)) (bB : Binds K fdB ["_law_speech_here", "_law_saying_here"] []) (kB : PySem.W.keepIn K (.ref fB) = true) (mB : mg "_law_bad" = some (.ref fB))
    (GH : FnOk P w K mg base CX0 59 fH fdH ["_law_saying_here"] (spHN K 58)) (bH : Binds K fdH ["_law_saying_here"] []) (kH : PySem.W.keepIn K (.ref fH) = true) (mH : mg "_law_has_note" = some (.ref fH))
    (ml : mg "len" = none) (mr : mg "range" = none) : FnOk P w K mg base CX0 61 f fd ["_law_net_here"] (spND K) := by
  refine F.ok scND (fun vs H Q E h => ?_) (fun cdv A outer s H vs Q E hr h => ?_)
  · obtain ⟨x, n, rfl, _⟩ := h
    rfl
  obtain ⟨x, n, rfl, hx, nk, q⟩ := h
  have w3 := nk.w3
  refine ⟨_, pss_cons (ps_asg (pv 0) (pg_tup rfl (pgs_cons (pg_name (i := 1) scND.nd rfl (Or.inl rfl)) (pgs_cons (pg_name (i := 2) scND.nd rfl (Or.inl rfl)) (pgs_cons (pg_name (i := 3) scND.nd rfl (Or.inl rfl)) pgs_nil)))))
    (pss_cons (ps_if (PW.pt (pw_or (pt_cmpR op_lt (pe_callB call_len_seq rfl ml PySem.boot_len (pa_cons (pv 1) pa_nil)) pe_int (nomark _)) (pw_or1 (pt_cmpR op_ne (pe_callB call_len_seq rfl ml PySem.boot_len (pa_cons (pv 2) pa_nil)) (pe_ix ix_tup (pe_ix ix_tup (pv 1) pe_int (fun _ _ => rfl)) pe_int (fun _ _ => rfl)) (nomark _)))))
      (pss_one (ps_ret (pe_lst (pc_c pe_str (pc_c pe_non pa_nil))))) pss_nil)
    (pss_cons (ps_for PassesOwn.never rfl (pi_tup (pv 2)) (pg_name (i := 4) scND.nd rfl (Or.inl rfl))
      (pss_cons (ps_set (i := 5) scND.nd rfl (Or.inl rfl) (pe_call GB hr rfl mB kB bB .nil pass0 (pa_cons (pv 1) (pa_cons (pv 4) pa_nil))))
      (pss_cons (ps_if (pt_cmpR (op_neLL hr.units) (pv 5) (pe_lst pa_nil) (nomark _)) (pss_one (ps_ret (pv 5))) pss_nil)
      (pss_one (ps_if (pt_val (pe_call GH (hr.mono (by decide)) rfl mH kH bH .nil pass0 (pa_cons (pv 4) pa_nil))) (pss_one (ps_ret (pe_lst (pc_c pe_str (pa_cons (pv 4) pa_nil))))) pss_nil)))))
    (pss_cons (ps_for PassesOwn.never rfl (pi_tup (pv 3)) (pg_name (i := 6) scND.nd rfl (Or.inl rfl))
      (pss_one (ps_for PassesOwn.never rfl (pi_range1 rfl mr (pa_cons pe_int pa_nil)) (pg_name (i := 7) scND.nd rfl (Or.inl rfl))
        (pss_one (ps_if (PW.pt (pw_or (pt_cmpR op_lt (pe_ix ix_tup (pv 6) (pv 7) (fun _ _ => rfl)) pe_int (nomark _)) (pw_or1 (pt_cmpR op_ge (pe_ix ix_tup (pv 6) (pv 7) (fun _ _ => rfl)) (pe_ix ix_tup (pe_ix ix_tup (pv 1) (pe_op op_mod (pv 7) pe_int) (fun _ _ => rfl)) pe_int (fun _ _ => rfl)) (nomark _)))))
          (pss_one (ps_ret (pe_lst (pc_c pe_str (pa_cons (pe_ix ix_tup (pv 6) (pv 7) (fun _ _ => rfl)) pa_nil))))) pss_nil)))))
    (pss_one (ps_ret (pe_lst pa_nil)))))), ?_⟩
  obtain ⟨a, sp, rp, tp, rs, ts, rfl, ha, hsp, hrp, hrs, htp, hts⟩ := net_open hx
  obtain ⟨sp', ys, es, hys, hyd⟩ := Hold.tupI hsp
  cases es
  have lw : ys.length = n.ws.length := by rw [hyd.length, List.length_map]
  have lr : rs.length = n.rules.length := by rw [hrs.length, List.length_map]
  have lts : ts.length = n.ties.length := by rw [hts.length, List.length_map]
  refine ⟨_, rfl, a, _, rfl, ha, rfl, _, _, rfl, _, _, rfl, _, _, rfl, rfl, ?_⟩
  refine ⟨_, rfl, sp, _, rfl, .inr hys, _, _, rfl, rfl, _, rfl, ?_⟩
  refine ite2 (fun c0 => ?_) (fun c0 => ?_)
  · have c1 : ((ys.length : Nat) : Int) < 2 := of_decide_eq_true c0
    refine iteT ⟨(by show 2 ≤ sizeLine; decide), fun r hr' => q r _ (same_new hr' _) ?_⟩
    have lo : n.low = true := by
      unfold Net.low
      rw [decide_eq_true (show n.ws.length < 2 by omega)]; rfl
    unfold Net.due
    rw [if_pos lo]
    exact upd_same
  have w2 : 2 ≤ n.ws.length := by
    have : ¬ ((ys.length : Nat) : Int) < 2 := fun z => c0 (decide_eq_true z)
    omega
  obtain ⟨ys', b, x0, c0', hys', ly', eb, hb, ew⟩ := cnt_open hsp (i := 0) (by omega)
  have ec : cnt n.ws 0 = c0' := cnt_eq ew
  refine ⟨_, rfl, rp, _, rfl, .inr hrp, _, rfl, sp, _, _, _, rfl, rfl, hys', atI_nat (j := 0) eb, b, _, _, _, rfl, rfl, hb, at1' _ _ _, rfl, _, rfl, ?_⟩
  refine ite2 (fun c1 => ?_) (fun c1 => ?_)
  · have c2 : ¬ (V.int ((rs.length : Nat) : Int) = V.int (c0' : Int)) := by simpa using c1
    refine ⟨(by show 2 ≤ sizeLine; decide), fun r hr' => q r _ (same_new hr' _) ?_⟩
    have lo : n.low = true := by
      unfold Net.low
      have z : n.rules.length ≠ cnt n.ws 0 := fun z => c2 (by rw [lr, z, ec])
      rw [decide_eq_true z, Bool.or_true]
    unfold Net.due
    rw [if_pos lo]
    exact upd_same
  have c2 : V.int ((rs.length : Nat) : Int) = V.int (c0' : Int) := by simpa using c1
  have c3 : n.rules.length = cnt n.ws 0 := by
    have z : ((rs.length : Nat) : Int) = (c0' : Int) := by injection c2
    rw [ec]; omega
  have lo : n.low = false := by
    unfold Net.low
    rw [decide_eq_false (show ¬ n.ws.length < 2 by omega), decide_eq_false (show ¬ n.rules.length ≠ cnt n.ws 0 from fun z => z c3)]; rfl
  have eD : n.due = (n.rules.findSome? (Say.rdue n.ws)).or (n.ties.findSome? (tdue n.ws)) := by
    unfold Net.due
    rw [if_neg (by rw [lo]; decide)]
  refine ⟨_, rfl, rp, rfl, ⟨_, hrp⟩, for_tup (K := K) (a := rp) (xs := rs) (fun i σ G => ∃ v4 v5 : Option V, σ = [some (.ref a), some (.ref sp), some (.ref rp), some (.ref tp), v4, v5, none, none] ∧ Same H G ∧ (n.rules.drop i).findSome? (Say.rdue n.ws) = n.rules.findSome? (Say.rdue n.ws))
    ⟨none, none, rfl, Same.refl _, rfl⟩ (fun i σ G _ ⟨_, _, _, sG, _⟩ => hrp.same sG) ?_ ?_⟩
  · rintro i y σ G hy ⟨v4, v5, rfl, sG, lk⟩
    obtain ⟨sy, ey, hsy⟩ := hrs.getm hy
    have z5 := nk.size sy (List.mem_of_getElem? ey)
    obtain ⟨n1, n2⟩ := find_at ey lk
    refine ⟨_, rfl, _, rfl, sp, y, n.ws, sy, rfl, Hold.mono sG hsp, w3, Hold.mono sG hsy, z5, fun r G2 s2 hd => ?_⟩
    obtain ⟨zs, hz, z1, z2⟩ := hd.len
    refine ⟨_, rfl, (by show 0 ≤ sizeLine; decide), fun l hl => ⟨r, l, zs, [], rfl, rfl, SqL.of (same_new hl _ _ _ hz), SqL.of upd_same, ?_⟩⟩
    have s3 := Same.trans (Same.trans sG s2) (same_new hl (.lst []))
    cases ed : sy.due n.ws with
    | some ff =>
      have zl : zs.length = 2 := z2 (by rw [ed]; intro z; cases z)
      refine .inl ⟨by rw [zl]; decide, _, rfl, iteT ⟨_, rfl, q r _ s3 ?_⟩⟩
      have r0 : sy.rdue n.ws = some (.flt ff) := by
        unfold Say.rdue
        rw [ed]
      rw [eD, n1 _ r0]
      show DueAt K _ r (some ff)
      rw [← ed]
      exact hd.mono (same_new hl _)
    | none =>
      rw [z1 ed]
      refine .inr ⟨[], .nil, .nil, by decide, _, rfl, iteF ?_⟩
      refine ⟨_, rfl, y, sy, rfl, Hold.mono s3 hsy, z5, fun G4 s4 => ⟨_, rfl, ?_⟩⟩
      refine ite2 (fun c4 => ?_) (fun c4 => ?_)
      · have nz : sy.nts ≠ 0 := of_decide_eq_true c4
        refine ⟨_, rfl, (by show 2 ≤ sizeLine; decide), fun r' hr' => q r' _ (Same.trans (Same.trans s3 s4) (same_new hr' _)) ?_⟩
        have r0 : sy.rdue n.ws = some (.plain sy) := by
          unfold Say.rdue
          rw [ed]
          exact if_neg nz
        rw [eD, n1 _ r0]
        exact ⟨y, upd_same, Hold.mono (Same.trans (Same.trans s3 s4) (same_new hr' _)) hsy⟩
      · have nz : sy.nts = 0 := by
          have : ¬ sy.nts ≠ 0 := fun z => c4 (decide_eq_true z)
          omega
        refine ⟨_, _, rfl, Same.trans s3 s4, n2 ?_⟩
        unfold Say.rdue
        rw [ed]
        exact if_pos nz
  · rintro σ G ⟨v4, v5, rfl, sG, lk⟩
    rw [lr, List.drop_length] at lk
    have eD2 : n.due = n.ties.findSome? (tdue n.ws) := by rw [eD, ← lk]; rfl
    refine ⟨_, rfl, tp, rfl, ⟨_, htp.same sG⟩, for_tup (K := K) (a := tp) (xs := ts) (fun i σ G' => ∃ v6 v7 : Option V, σ = [some (.ref a), some (.ref sp), some (.ref rp), some (.ref tp), v4, v5, v6, v7] ∧ Same H G' ∧ (n.ties.drop i).findSome? (tdue n.ws) = n.ties.findSome? (tdue n.ws))
      ⟨none, none, rfl, sG, rfl⟩ (fun i σ G _ ⟨_, _, _, sG, _⟩ => htp.same sG) ?_ ?_⟩
    · rintro i y σ G1 hy ⟨v6, v7, rfl, sG1, lk1⟩
      obtain ⟨t, et, hty⟩ := hts.getm hy
      have t4 := nk.four t (List.mem_of_getElem? et)
      obtain ⟨n1, n2⟩ := find_at et lk1
      obtain ⟨ya, zs, ey, hya, hzs⟩ := Hold.tupI hty
      subst ey
      have lz : zs.length = 4 := by rw [hzs.length, List.length_map, t4]
      refine ⟨4, rfl, by decide, by decide, for_range (n := 4) (fun j σ G2 => ∃ v7 : Option V, σ = [some (.ref a), some (.ref sp), some (.ref rp), some (.ref tp), v4, v5, some (.ref ya), v7] ∧ Same H G2 ∧ tieBad n.ws j (t.drop j) = tieBad n.ws 0 t)
        ⟨_, rfl, sG1, rfl⟩ ?_ ?_⟩
      · rintro j σ G2 hj ⟨v7, rfl, sG2, lk2⟩
        obtain ⟨zv, ez⟩ : ∃ zv, zs[j]? = some zv := ⟨_, List.getElem?_eq_getElem (by omega)⟩
        obtain ⟨v, ev, hv⟩ := hzs.getm ez
        cases hv.flatI
        obtain ⟨k1, k2⟩ := tieBad_drop ev lk2
        have j2 : j % 2 < n.ws.length := Nat.lt_of_lt_of_le (Nat.mod_lt _ (by decide)) w2
        obtain ⟨ys2, b2, x2, c2', hys2, ly2, eb2, hb2, ew2⟩ := cnt_open (Hold.mono sG2 hsp) j2
        have ec2 := cnt_eq ew2
        have ej : atI zs (0 + (j : Int)) = some (.int v.1) := by rw [Int.zero_add]; exact atI_nat ez
        have out : ¬ (0 ≤ v.1 ∧ v.1 < (c2' : Int)) → ∀ r, G2 r = none → Q (.ref r) (upd G2 r (.lst [.str "value", .int v.1])) := fun nb r hr' => by
          refine q r _ (Same.trans sG2 (same_new hr' _)) ?_
          have r0 : tdue n.ws t = some (.flt (.value v.1)) := by unfold tdue; rw [k2 (by rw [ec2]; exact nb)]; rfl
          rw [eD2, n1 _ r0]
          exact upd_same
        refine ⟨_, rfl, _, rfl, ya, _, _, _, rfl, rfl, hya.same sG2, ej, _, _, rfl, rfl, _, rfl, ?_⟩
        refine ite2 (fun d0 => ?_) (fun d0 => ?_)
        · have d1 : v.1 < 0 := of_decide_eq_true d0
          exact iteT ⟨_, rfl, _, rfl, ya, _, _, _, rfl, rfl, hya.same sG2, ej, (by show 2 ≤ sizeLine; decide), fun r hr' => out (fun z => by omega) r hr'⟩
        · have d1 : ¬ v.1 < 0 := fun z => d0 (decide_eq_true z)
          refine ⟨_, rfl, _, rfl, ya, _, _, _, rfl, rfl, hya.same sG2, ej, _, rfl, _, rfl, _, _, rfl, rfl, (by show (0 : Int) < 2; decide), sp, _, _, _, rfl, rfl, hys2, (by rw [show ((0 + (j : Int)) % 2) = ((j % 2 : Nat) : Int) by omega]; exact atI_nat eb2), b2, _, _, _, rfl, rfl, hb2, at1' _ _ _, _, _, rfl, rfl, _, rfl, ?_⟩
          refine ite2 (fun e0 => ?_) (fun e0 => ?_)
          · have e1 : (c2' : Int) ≤ v.1 := of_decide_eq_true e0
            exact ⟨_, rfl, _, rfl, ya, _, _, _, rfl, rfl, hya.same sG2, ej, (by show 2 ≤ sizeLine; decide), fun r hr' => out (fun z => by omega) r hr'⟩
          · have e1 : ¬ (c2' : Int) ≤ v.1 := fun z => e0 (decide_eq_true z)
            exact ⟨_, rfl, sG2, k1 (by rw [ec2]; exact ⟨by omega, by omega⟩)⟩
      · rintro σ G2 ⟨v7, rfl, sG2, lk2⟩
        have z : t.drop 4 = [] := List.drop_eq_nil_iff.mpr (by omega)
        rw [z] at lk2
        refine ⟨_, _, rfl, sG2, n2 ?_⟩
        unfold tdue
        rw [← lk2]; rfl
    · rintro σ G1 ⟨v6, v7, rfl, sG1, lk1⟩
      rw [lts, List.drop_length] at lk1
      refine ⟨(by show 0 ≤ sizeLine; decide), fun r hr' => q r _ (Same.trans sG1 (same_new hr' _)) ?_⟩
      rw [eD2, ← lk1]
      exact upd_same
end
end S7


set_option Elab.async false
set_option maxRecDepth 100000
set_option maxHeartbeats 4000000
/-! k72: a rule is spoiled, a net is spoiled -/
namespace L2
open PySem
theorem new_tup {K : PySem.W.Frag} {H : Hp} {p : Addr} {xs : List V} {ds : List Da} (hp : H p = none) (h : Holds K H xs ds) : Hold K (upd H p (.tup xs)) (.ref p) (.tup ds) := .tup (SqT.of upd_same) (Holds.mono (sameN hp _) h)
theorem at_int {α : Type} {xs : List α} {v : Int} (h0 : 0 ≤ v) (h1 : v < (xs.length : Int)) : ∃ x, xs[v.toNat]? = some x ∧ atI xs v = some x := by
  have hk : v.toNat < xs.length := by omega
  have ek : v = ((v.toNat : Nat) : Int) := by omega
  have q : atI xs ((v.toNat : Nat) : Int) = some xs[v.toNat] := atI_nat (List.getElem?_eq_getElem hk)
  rw [← ek] at q
  exact ⟨_, List.getElem?_eq_getElem hk, q⟩
end L2
namespace S7
open PySem L2
def spStrange (K : PySem.W.Frag) : Sp := fun vs H Q _ => ∃ (p sp : Addr) (y : V) (a b : Int) (ws : List (Str × Nat)) (s : Say), vs = [.ref p, .ref sp, y] ∧ H p = some (.lst [.int a, .int b]) ∧ 0 ≤ a ∧ 0 ≤ b ∧ Hold K H (.ref sp) (speechD ws) ∧ SpeechOk ws ∧ Hold K H y s.da ∧
  ∀ (x : V) (t : Say) (a' b' : Int) (G : Hp), Keep p H G → G p = some (.lst [.int a', .int b']) → 0 ≤ a' → 0 ≤ b' → Hold K G x t.da → t.size ≤ s.size + 3 → Q x G
abbrev nSt : List Str := ["_law_purse_here", "_law_speech_here", "_law_rule", "_law_field", "_law_count", "_law_far", "_law_sort"]
section
variable {P : Program} {w : World} {K : PySem.W.Frag} {mg : Str → Option Value} {base : Heap}
theorem scSt : FnScope nSt ["_law_purse_here", "_law_speech_here", "_law_rule"] (defScope sStrange) := ⟨rfl, rfl, rfl, by decide +kernel, rfl, by decide +kernel, by decide +kernel⟩
theorem ok_strange {f fT : Addr} {fd fdT : FuncData} (F : Fun K "_law_strange" "_law_strange" sStrange f fd)
    (GT : FnOk P w K mg base CX0 1 fT fdT ["_law_purse_here", "_law_many"] spTake) (bT : Binds K fdT ["_law_purse_here", "_law_many"] []) (kT : PySem.W.keepIn K (.ref fT) = true) (mT : mg "_law_take" = some (.ref fT)) (ml : mg "len" = none) :
    FnOk P w K mg base CX0 2 f fd ["_law_purse_here", "_law_speech_here", "_law_rule"] (spStrange K) := by
  refine F.ok scSt (fun vs H Q E h => ?_) (fun cdv A outer s H vs Q E hr h => ?_)
  · obtain ⟨p, sp, y, a, b, ws, sy, rfl, _⟩ := h
    rfl
  obtain ⟨p, sp, y, a, b, ws, sy, rfl, hp, ha, hb, hs, sk, hy, q⟩ := h
  refine ⟨_, pss_cons (ps_asg (pe_ix ix_tup (pv 1) (pe_call GT hr rfl mT kT bT .nil pass0 (pa_cons (pv 0) (pa_cons (pe_callB call_len_seq rfl ml PySem.boot_len (pa_cons (pv 1) pa_nil)) pa_nil))) (fun _ _ => rfl))
      (pg_tup rfl (pgs_cons (pg_name (i := 3) scSt.nd rfl (Or.inl rfl)) (pgs_cons (pg_name (i := 4) scSt.nd rfl (Or.inl rfl)) pgs_nil))))
    (pss_cons (ps_set (i := 5) scSt.nd rfl (Or.inl rfl) (pe_ix ix_list (pe_lst (pa_cons (pe_un un_neg pe_int) (pa_cons (pv 4) (pa_cons (pe_op op_add (pe_op op_pow pe_int pe_int) (pv 4)) pa_nil)))) (pe_call GT hr rfl mT kT bT .nil pass0 (pa_cons (pv 0) (pa_cons pe_int pa_nil))) (fun _ _ => rfl)))
    (pss_cons (ps_set (i := 6) scSt.nd rfl (Or.inl rfl) (pe_call GT hr rfl mT kT bT .nil pass0 (pa_cons (pv 0) (pa_cons pe_int pa_nil))))
    (pss_cons (ps_if (pt_cmpR op_eq (pv 6) pe_int (nomark _)) (pss_one (ps_ret (pe_tup (pc_c pe_str (pc_n (pv 2) (pc_t (pe_tup (pc_c pe_str (pa_cons (pe_op op_add_str (pv 3) pe_str) (pc_n (pv 5) pa_nil)))) pa_nil)))))) pss_nil)
    (pss_cons (ps_if (pt_cmpR op_eq (pv 6) pe_int (nomark _)) (pss_one (ps_ret (pe_tup (pc_c pe_str (pc_t (pe_tup (pc_c pe_str (pc_n (pv 3) (pc_n (pv 5) pa_nil)))) (pc_n (pv 2) pa_nil)))))) pss_nil)
    (pss_cons (ps_if (pt_cmpR op_eq (pv 6) pe_int (nomark _)) (pss_one (ps_ret (pe_tup (pc_c pe_str (pc_t (pe_tup (pc_c pe_str (pc_t (pe_tup (pc_c pe_str (pc_n (pv 3) (pc_c pe_int pa_nil)))) pa_nil))) (pc_n (pv 2) pa_nil)))))) pss_nil)
    (pss_cons (ps_if (pt_cmpR op_eq (pv 6) pe_int (nomark _)) (pss_one (ps_ret (pe_tup (pc_c pe_str (pc_n (pv 2) (pc_t (pe_tup (pc_c pe_str (pc_t (pe_tup (pc_c pe_str pa_nil)) pa_nil))) pa_nil)))))) pss_nil)
    (pss_one (ps_ret (pe_tup (pc_c pe_str (pc_t (pe_tup (pc_c pe_str pa_nil)) (pc_t (pe_tup (pc_c pe_str (pc_n (pv 3) (pc_n (pv 5) pa_nil)))) pa_nil)))))))))))), ?_⟩
  obtain ⟨a', vs, ea, hsp, hd⟩ := Hold.tupI hs
  cases ea
  have lv : vs.length = ws.length := by rw [hd.length, List.length_map]
  have s1 := sk.lo
  have s3 := sk.hi
  refine ⟨_, rfl, _, rfl, _, rfl, sp, _, rfl, .inr hsp, p, a, b, _, rfl, hp, ha, hb, by omega, by omega, fun v a1 b1 G1 v0 v1 ha1 hb1 g1 k1 => ?_⟩
  obtain ⟨xv, ex, ev⟩ := at_int v0 v1
  obtain ⟨w', ew, hw⟩ := hd.getm ex
  obtain ⟨c, ys, ec, hc, hys⟩ := Hold.tupI hw
  have wm : w' ∈ ws := List.mem_of_getElem? ew
  have h6 := sk.cnt w' wm
  have wk := sk.word w' wm
  have wl := wk.len
  have t1 : Tups H G1 := Tups.but hp k1
  have z0 : (0 : Int).natAbs.log2 < 1000 := by decide
  refine ⟨sp, _, _, _, rfl, rfl, hsp.tups t1, ev, ?_⟩
  rw [ec]
  cases hys with
  | cons h1 r1 =>
    cases r1 with
    | cons h2 r2 =>
      cases r2
      cases h1.flatI
      cases h2.flatI
      refine ⟨c, _, rfl, hc.tups t1, rfl, _, _, rfl, _, _, rfl, rfl, ?_⟩
      refine ⟨1, rfl, _, rfl, _, _, rfl, rfl, ⟨by decide, by decide, by decide⟩, _, rfl, _, _, rfl, rfl, (by show 3 ≤ sizeLine; decide), fun l2 hl2 => ?_⟩
      have pl2 : p ≠ l2 := ne_of_none g1 hl2
      refine ⟨_, rfl, p, a1, b1, 3, rfl, (by rw [upd_ne pl2]; exact g1), ha1, hb1, by decide, by decide, fun v3 a3 b3 G3 v30 v31 ha3 hb3 g3 k3 => ?_⟩
      obtain ⟨far, fm, fe⟩ := menu (ns := [-1, (w'.2 : Int), (10 : Int) ^ ((59 : Int).toNat) + (w'.2 : Int)]) v30 v31
      have flog : far.natAbs.log2 < 1000 := by
        refine log_small ?_
        rw [p59] at fm
        simp only [List.mem_cons, List.not_mem_nil, or_false] at fm
        omega
      have K3 : Keep p H G3 := (k1.new hl2 _).trans k3
      refine ⟨l2, _, _, _, rfl, rfl, SqL.of (k3 _ _ pl2.symm upd_same), fe, ?_⟩
      refine ⟨_, rfl, p, a3, b3, 5, rfl, g3, ha3, hb3, by decide, by decide, fun v4 a4 b4 G4 v40 v41 ha4 hb4 g4 k4 => ?_⟩
      have K4 : Keep p H G4 := K3.trans k4
      have t4 : Tups H G4 := Tups.but hp K4
      have hy4 := Hold.stay t4 (da_fix sy) hy
      have fin : ∀ (x : V) (t : Say) (G : Hp), Same G4 G → Hold K G x t.da → t.size ≤ sy.size + 3 → Q x G := fun x t G sG hx ht =>
        q x t a4 b4 G (fun c o hc e => sG c o (K4 c o hc e)) (sG _ _ g4) ha4 hb4 hx ht
      have fx : Fld := ⟨w'.1 ++ "x", word_x wk⟩
      refine ⟨_, rfl, rfl, _, rfl, ite2 (fun _ => ?_) (fun _ => ?_)⟩
      · refine ⟨_, rfl, _, rfl, _, _, rfl, rfl, small (by show w'.1.length + 1 ≤ 1000; omega), _, rfl, (by show 3 ≤ sizeLine; decide), fun t1 n1 => ⟨(by show 3 ≤ sizeLine; decide), fun t2 n2 => ?_⟩⟩
        refine fin (.ref t2) (.both sy (.is ⟨w'.1 ++ "x", word_x wk⟩ ⟨far, flog⟩)) _ (Same.trans (sameN n1 _) (sameN n2 _)) ?_ (by simp only [Say.size]; omega)
        exact new_tup n2 (.cons (.flat rfl) (.cons (Hold.mono (sameN n1 _) hy4) (.cons (new_tup n1 (.cons (.flat rfl) (.cons (.flat rfl) (.cons (.flat rfl) .nil)))) .nil)))
      refine ⟨_, rfl, rfl, _, rfl, ite2 (fun _ => ?_) (fun _ => ?_)⟩
      · refine ⟨_, rfl, _, rfl, (by show 3 ≤ sizeLine; decide), fun t1 n1 => ⟨_, rfl, (by show 3 ≤ sizeLine; decide), fun t2 n2 => ?_⟩⟩
        refine fin (.ref t2) (.either (.put ⟨w'.1, word_repr wk⟩ ⟨far, flog⟩) sy) _ (Same.trans (sameN n1 _) (sameN n2 _)) ?_ (by simp only [Say.size]; omega)
        exact new_tup n2 (.cons (.flat rfl) (.cons (new_tup n1 (.cons (.flat rfl) (.cons (.flat rfl) (.cons (.flat rfl) .nil)))) (.cons (Hold.mono (sameN n1 _) hy4) .nil)))
      refine ⟨_, rfl, rfl, _, rfl, ite2 (fun _ => ?_) (fun _ => ?_)⟩
      · refine ⟨_, rfl, (by show 3 ≤ sizeLine; decide), fun t1 n1 => ⟨(by show 2 ≤ sizeLine; decide), fun t2 n2 => ⟨_, rfl, (by show 3 ≤ sizeLine; decide), fun t3 n3 => ?_⟩⟩⟩
        refine fin (.ref t3) (.both (.no (.put ⟨w'.1, word_repr wk⟩ ⟨0, z0⟩)) sy) _ (Same.trans (Same.trans (sameN n1 _) (sameN n2 _)) (sameN n3 _)) ?_ (by simp only [Say.size]; omega)
        exact new_tup n3 (.cons (.flat rfl) (.cons (new_tup n2 (.cons (.flat rfl) (.cons (new_tup n1 (.cons (.flat rfl) (.cons (.flat rfl) (.cons (.flat rfl) .nil)))) .nil))) (.cons (Hold.mono (Same.trans (sameN n1 _) (sameN n2 _)) hy4) .nil)))
      refine ⟨_, rfl, rfl, _, rfl, ite2 (fun _ => ?_) (fun _ => ?_)⟩
      · refine ⟨_, rfl, (by show 1 ≤ sizeLine; decide), fun t1 n1 => ⟨(by show 2 ≤ sizeLine; decide), fun t2 n2 => ⟨(by show 3 ≤ sizeLine; decide), fun t3 n3 => ?_⟩⟩⟩
        refine fin (.ref t3) (.both sy (.again .note)) _ (Same.trans (Same.trans (sameN n1 _) (sameN n2 _)) (sameN n3 _)) ?_ (by simp only [Say.size]; omega)
        exact new_tup n3 (.cons (.flat rfl) (.cons (Hold.mono (Same.trans (sameN n1 _) (sameN n2 _)) hy4) (.cons (new_tup n2 (.cons (.flat rfl) (.cons (new_tup n1 (.cons (.flat rfl) .nil)) .nil))) .nil)))
      · refine ⟨(by show 1 ≤ sizeLine; decide), fun t1 n1 => ⟨_, rfl, _, rfl, (by show 3 ≤ sizeLine; decide), fun t2 n2 => ⟨(by show 3 ≤ sizeLine; decide), fun t3 n3 => ?_⟩⟩⟩
        have zs := size_pos sy
        refine fin (.ref t3) (.either .note (.is ⟨w'.1, word_repr wk⟩ ⟨far, flog⟩)) _ (Same.trans (Same.trans (sameN n1 _) (sameN n2 _)) (sameN n3 _)) ?_ (by simp only [Say.size]; omega)
        exact new_tup n3 (.cons (.flat rfl) (.cons (Hold.mono (sameN n2 _) (new_tup n1 (.cons (.flat rfl) .nil))) (.cons (new_tup n2 (.cons (.flat rfl) (.cons (.flat rfl) (.cons (.flat rfl) .nil)))) .nil)))
end
/-- how great a net may be that was spoiled k times -/
structure NetB (n : Net) (k : Nat) : Prop where
  sk : SpeechOk n.ws
  rl : n.rules.length ≤ 6 + k
  sz : ∀ s ∈ n.rules, s.size ≤ 50 + 3 * k
  tl : n.ties.length ≤ 6
  four : ∀ t ∈ n.ties, t.length = 4
def spSpoiled (K : PySem.W.Frag) (k : Nat) : Sp := fun vs H Q _ => ∃ (p : Addr) (x : V) (a b : Int) (n : Net), vs = [x, .ref p] ∧ H p = some (.lst [.int a, .int b]) ∧ 0 ≤ a ∧ 0 ≤ b ∧ Hold K H x n.da ∧ NetB n k ∧
  ∀ (y : V) (m : Net) (a' b' : Int) (G : Hp), Keep p H G → G p = some (.lst [.int a', .int b']) → 0 ≤ a' → 0 ≤ b' → Hold K G y m.da → NetB m (k + 1) → Q y G
theorem speech_fix (ws : List (Str × Nat)) : (speechD ws).fix = true := by
  unfold speechD
  rw [Da.fix]
  exact fixL_map (fun _ => rfl) ws
theorem SpeechOk.one {ws : List (Str × Nat)} (s : SpeechOk ws) : SpeechOk (ws.take 1) := by
  have h := s.lo
  refine ⟨?_, ?_, fun w hw => s.cnt w (List.mem_of_mem_take hw), fun w hw => s.word w (List.mem_of_mem_take hw)⟩ <;> rw [List.length_take] <;> omega
theorem cut_take {α : Type} (xs : List α) (k : Nat) : cutL xs none (some (k : Int)) = xs.take k := by
  unfold cutL
  have e : HT.sIx xs.length xs.length (some (k : Int)) = min k xs.length := HT.sIx_nat _ _ _
  have e0 : HT.sIx xs.length 0 none = 0 := rfl
  rw [e, e0, List.drop_zero, Nat.sub_zero]
  by_cases h : k ≤ xs.length
  · rw [Nat.min_eq_left h]
  · rw [Nat.min_eq_right (by omega), List.take_length, List.take_of_length_le (by omega)]
theorem cut_drop {α : Type} (xs : List α) (k : Nat) : cutL xs (some (k : Int)) none = xs.drop k := by
  unfold cutL
  have e : HT.sIx xs.length 0 (some (k : Int)) = min k xs.length := HT.sIx_nat _ _ _
  have e0 : HT.sIx xs.length xs.length none = xs.length := HT.sIx_none _ _
  rw [e, e0]
  by_cases h : k ≤ xs.length
  · rw [Nat.min_eq_left h, List.take_of_length_le (by rw [List.length_drop]; omega)]
  · rw [Nat.min_eq_right (by omega), Nat.sub_self, List.take_zero, List.drop_eq_nil_iff.mpr (by omega)]
theorem cut_init {α : Type} (xs : List α) : cutL xs none (some (-1)) = xs.dropLast := by
  unfold cutL
  have e : HT.sIx xs.length xs.length (some (-1)) = xs.length - 1 := by
    show (if (-1 : Int) < 0 then ((-1 : Int) + (xs.length : Int)).toNat else min (-1 : Int).toNat xs.length) = _
    rw [if_pos (by decide)]
    omega
  have e0 : HT.sIx xs.length 0 none = 0 := rfl
  rw [e, e0, List.drop_zero, Nat.sub_zero, List.dropLast_eq_take]
end S7


set_option Elab.async false
set_option maxRecDepth 100000
set_option maxHeartbeats 4000000
/-! k72: a net is spoiled -/
namespace S7
open PySem L2
abbrev nSp : List Str := ["_law_net_here", "_law_purse_here", "_law_speech_here", "_law_rules", "_law_ties", "_law_sort", "_law_at", "_law_place", "_law_count", "_law_far", "_law_tie"]
theorem p58 : (10 : Int) ^ ((58 : Int).toNat) = 10000000000000000000000000000000000000000000000000000000000 := by decide +kernel
theorem ixN_nat {n : Nat} {v : Int} (h0 : 0 ≤ v) (h1 : v < (n : Int)) : ixN n v = some v.toNat := by
  unfold ixN
  rw [if_pos h0, if_pos h1]
theorem Net.mk_da {K : PySem.W.Frag} {G : Hp} {t sp rp tp : Addr} {ws : List (Str × Nat)} {rules : List Say} {ties : List (List Num)} (n0 : G t = none) (h1 : Hold K G (.ref sp) (speechD ws)) (h2 : Hold K G (.ref rp) (.tup (rules.map Say.da))) (h3 : Hold K G (.ref tp) (.tup (ties.map tieD))) :
    Hold K (upd G t (.tup [.ref sp, .ref rp, .ref tp])) (.ref t) (Net.da ⟨ws, rules, ties⟩) := new_tup n0 (.cons h1 (.cons h2 (.cons h3 .nil)))
theorem tie_held {K : PySem.W.Frag} {G : Hp} {t : Addr} {zs : List Int} (n0 : G t = none) (hz : ∀ z ∈ zs, z.natAbs.log2 < 1000) : ∃ l : List Num, l.length = zs.length ∧ Hold K (upd G t (.tup (zs.map V.int))) (.ref t) (tieD l) := by
  refine ⟨zs.attach.map fun z => ⟨z.1, hz z.1 z.2⟩, by simp, ?_⟩
  unfold tieD
  refine new_tup n0 ?_
  rw [List.map_map]
  have e : zs.attach.map ((fun v : Num => Da.flat (.int v.1)) ∘ fun z => ⟨z.1, hz z.1 z.2⟩) = zs.map fun v => Da.flat (.int v) := by
    show zs.attach.map (fun z => Da.flat (.int z.1)) = _
    rw [List.attach_map_val (f := fun v : Int => Da.flat (.int v))]
  rw [e]
  exact holds_ints zs
section
variable {P : Program} {w : World} {K : PySem.W.Frag} {mg : Str → Option Value} {base : Heap}
theorem scSp2 : FnScope nSp ["_law_net_here", "_law_purse_here"] (defScope sSpoiled) := ⟨rfl, rfl, rfl, by decide +kernel, rfl, by decide +kernel, by decide +kernel⟩
theorem ok_spoiled {f fT fS : Addr} {fd fdT fdS : FuncData} {k : Nat} (F : Fun K "_law_spoiled" "_law_spoiled" sSpoiled f fd) (k10 : k ≤ 10)
    (GT : FnOk P w K mg base CX0 1 fT fdT ["_law_purse_here", "_law_many"] spTake) (bT : Binds K fdT ["_law_purse_here", "_law_many"] []) (kT : PySem.W.keepIn K (.ref fT) = true) (mT : mg "_law_take" = some (.ref fT))
    (GS : FnOk P w K mg base CX0 2 fS fdS ["_law_purse_here", "_law_speech_here", "_law_rule"] (spStrange K)) (bS : Binds K fdS ["_law_purse_here", "_law_speech_here", "_law_rule"] []) (kS : PySem.W.keepIn K (.ref fS) = true) (mS : mg "_law_strange" = some (.ref fS))
    (ml : mg "len" = none) (mn : mg "min" = none) (mt : mg "tuple" = none) : FnOk P w K mg base CX0 3 f fd ["_law_net_here", "_law_purse_here"] (spSpoiled K k) := by
  refine F.ok scSp2 (fun vs H Q E h => ?_) (fun cdv A outer s H vs Q E hr h => ?_)
  · obtain ⟨p, x, a, b, n, rfl, _⟩ := h
    rfl
  obtain ⟨p, x, a, b, n, rfl, hp, ha, hb, hx, nb, q⟩ := h
  have hr1 : Room 1 _ := hr.mono (by decide)
  -- the tie is put among the others
  have tail2 : ∃ tt, PSs (cxOf CX0 P w K mg base nSp "_law_spoiled" (defScope sSpoiled) f cdv A outer s H E).nox ((defBody sSpoiled).drop 11) tt ∧ ∀ (v5 v6 v7 v8 v9 : Option V) (sp rp tp lt : Addr) (a b : Int) (zs : List Int) (G : Hp), Keep p H G → G p = some (.lst [.int a, .int b]) → 0 ≤ a → 0 ≤ b →
      Hold K G (.ref sp) (speechD n.ws) → Hold K G (.ref rp) (.tup (n.rules.map Say.da)) → Hold K G (.ref tp) (.tup (n.ties.map tieD)) → G lt = some (.lst (zs.map V.int)) → lt ≠ p → zs.length = 4 → (∀ z ∈ zs, z.natAbs.log2 < 1000) →
      tt { nx := fun _ H' => Q .non H', rt := Q } [some x, some (.ref p), some (.ref sp), some (.ref rp), some (.ref tp), v5, v6, v7, v8, v9, some (.ref lt)] G := by
    refine ⟨_, pss_cons (ps_set (i := 6) scSp2.nd rfl (Or.inl rfl) (pe_call GT hr1 rfl mT kT bT .nil pass0 (pa_cons (pv 1) (pa_cons pe_int pa_nil))))
      (pss_cons (ps_set (i := 4) scSp2.nd rfl (Or.inl rfl) (pe_slice sl_tupW (pv 4) po_none (po_some pe_int)))
      (pss_one (ps_ret (pe_tup (pc_n (pv 2) (pc_n (pv 3) (pa_cons (pe_op (r := fun x y H Q => rCatT K x y H Q ∨ rCatT0 K x y H Q) op_catTT (pe_op (r := fun x y H Q => rCatT K x y H Q ∨ rCatT0 K x y H Q) op_catTT (pe_slice sl_tupW (pv 4) po_none (po_some (pv 6))) (pe_tup (pa_cons (pe_callTy call_tuple_of rfl mt (by kernel_rfl) (pa_cons (pv 10) pa_nil)) pa_nil)))
        (pe_slice sl_tupW (pv 4) (po_some (pv 6)) po_none)) pa_nil))))))), ?_⟩
    intro v5 v6 v7 v8 v9 sp rp tp lt a b zs G K0 g0 ha hb hsp hrp htp glt nlt lzs hzs
    refine ⟨_, rfl, p, a, b, 6, rfl, g0, ha, hb, by decide, by decide, fun at_ a1 b1 G1 at0 at1 ha1 hb1 g1 k1 => ?_⟩
    have t01 : Tups G G1 := Tups.but g0 k1
    have K1 := K0.trans k1
    have fT : ∀ l : List (List Num), (Da.tup (l.map tieD)).fix = true := fun l => by rw [Da.fix]; exact fixL_map (fun t => by unfold tieD; rw [Da.fix]; exact fixL_map (fun _ => rfl) t) l
    have fR : ∀ l : List Say, (Da.tup (l.map Say.da)).fix = true := fun l => by rw [Da.fix]; exact fixL_map da_fix l
    have hsp1 := Hold.stay t01 (speech_fix n.ws) hsp
    have hrp1 := Hold.stay t01 (fR _) hrp
    have htp1 := Hold.stay t01 (fT _) htp
    refine ⟨_, rfl, _, rfl, cut_hold htp1 fun tp2 G2 s2 h2 => ?_⟩
    rw [cutL_map, show (some (5 : Int)) = some (((5 : Nat) : Int)) from rfl, cut_take] at h2
    have eat : at_ = ((at_.toNat : Nat) : Int) := by omega
    refine ⟨_, rfl, _, rfl, _, rfl, _, rfl, _, rfl, cut_hold h2 fun tp3 G3 s3 h3 => ?_⟩
    rw [cutL_map, eat, cut_take] at h3
    have s13 := Same.trans s2 s3
    have glt3 := s13 _ _ (k1 _ _ nlt glt)
    refine ⟨_, rfl, lt, _, rfl, .inl ⟨SqL.of glt3, fun t4 n4 => ⟨(by show 1 ≤ sizeLine; decide), fun t5 n5 => ?_⟩⟩⟩
    obtain ⟨tn, ltn, htn⟩ := tie_held (K := K) n4 hzs
    have h5 := new_tup (K := K) n5 (.cons htn .nil)
    have s4 := sameN n4 (.tup (zs.map V.int))
    have s5 := sameN n5 (.tup [.ref t4])
    have h3' := Hold.mono (Same.trans s4 s5) h3
    refine cat_hold h3' h5 ?_ fun t6 G6 s6 h6 => ?_
    · rw [List.length_map, List.length_singleton, List.length_take, List.length_take]; omega
    have s36 := Same.trans (Same.trans s4 s5) s6
    have h2' := Hold.mono (Same.trans s3 s36) h2
    refine ⟨_, rfl, _, rfl, _, rfl, cut_hold h2' fun t7 G7 s7 h7 => ?_⟩
    rw [cutL_map, eat, cut_drop] at h7
    refine cat_hold (Hold.mono s7 h6) h7 ?_ fun t8 G8 s8 h8 => ⟨(by show 3 ≤ sizeLine; decide), fun t9 n9 => ?_⟩
    · rw [List.length_append, List.length_map, List.length_map, List.length_singleton, List.length_take, List.length_take, List.length_drop, List.length_take]; omega
    have s18 : Same G1 G8 := Same.trans s13 (Same.trans s36 (Same.trans s7 s8))
    have eT : ((n.ties.take 5).take at_.toNat).map tieD ++ [tieD tn] ++ ((n.ties.take 5).drop at_.toNat).map tieD = ((n.ties.take 5).take at_.toNat ++ [tn] ++ (n.ties.take 5).drop at_.toNat).map tieD := by
      rw [List.map_append, List.map_append]; rfl
    rw [eT] at h8
    refine q (.ref t9) ⟨n.ws, n.rules, (n.ties.take 5).take at_.toNat ++ [tn] ++ (n.ties.take 5).drop at_.toNat⟩ a1 b1 _ (fun c u hc z => sameN n9 _ _ _ (s18 c u (K1 c u hc z))) (sameN n9 _ _ _ (s18 _ _ g1)) ha1 hb1 (Net.mk_da n9 (Hold.mono s18 hsp1) (Hold.mono s18 hrp1) h8) ?_
    refine ⟨nb.sk, Nat.le_succ_of_le nb.rl, fun s hs => Nat.le_trans (nb.sz s hs) (by omega), ?_, fun t ht => ?_⟩
    · show ((n.ties.take 5).take at_.toNat ++ [tn] ++ (n.ties.take 5).drop at_.toNat).length ≤ 6
      rw [List.length_append, List.length_append, List.length_singleton, List.length_take, List.length_take, List.length_drop, List.length_take]; omega
    · have ht' : t ∈ (n.ties.take 5).take at_.toNat ++ [tn] ++ (n.ties.take 5).drop at_.toNat := ht
      rcases List.mem_append.mp ht' with z | z
      · rcases List.mem_append.mp z with z | z
        · exact nb.four t (List.mem_of_mem_take (List.mem_of_mem_take z))
        · rw [List.mem_singleton.mp z, ltn, lzs]
      · exact nb.four t (List.mem_of_mem_take (List.mem_of_mem_drop z))
  obtain ⟨tt2, ht2, hq2⟩ := tail2
  -- the ties
  have tail : ∃ tt, PSs (cxOf CX0 P w K mg base nSp "_law_spoiled" (defScope sSpoiled) f cdv A outer s H E).nox ((defBody sSpoiled).drop 5) tt ∧ ∀ (v5 v6 : Option V) (sp rp tp : Addr) (a b : Int) (G : Hp), Keep p H G → G p = some (.lst [.int a, .int b]) → 0 ≤ a → 0 ≤ b →
      Hold K G (.ref sp) (speechD n.ws) → Hold K G (.ref rp) (.tup (n.rules.map Say.da)) → Hold K G (.ref tp) (.tup (n.ties.map tieD)) →
      tt { nx := fun _ H' => Q .non H', rt := Q } [some x, some (.ref p), some (.ref sp), some (.ref rp), some (.ref tp), v5, v6, none, none, none, none] G := by
    refine ⟨_, pss_cons (ps_set (i := 7) scSp2.nd rfl (Or.inl rfl) (pe_call GT hr1 rfl mT kT bT .nil pass0 (pa_cons (pv 1) (pa_cons pe_int pa_nil))))
      (pss_cons (ps_set (i := 8) scSp2.nd rfl (Or.inl rfl) (pe_ix ix_tup (pe_ix ix_tup (pv 2) (pe_callB (call_min2 rfl) rfl mn (by kernel_rfl) (pa_cons (pe_op op_mod (pv 7) pe_int) (pa_cons (pe_op op_sub (pe_callB call_len_seq rfl ml PySem.boot_len (pa_cons (pv 2) pa_nil)) pe_int) pa_nil))) (fun _ _ => rfl)) pe_int (fun _ _ => rfl)))
      (pss_cons (ps_set (i := 9) scSp2.nd rfl (Or.inl rfl) (pe_ix ix_list (pe_lst (pa_cons (pe_un un_neg pe_int) (pa_cons (pv 8) (pa_cons (pe_op op_add (pv 8) pe_int) (pa_cons (pe_op op_add (pe_op op_pow pe_int pe_int) (pv 8)) (pa_cons (pe_op op_sub (pe_un un_neg pe_int) (pe_op op_pow pe_int pe_int)) pa_nil)))))) (pe_call GT hr1 rfl mT kT bT .nil pass0 (pa_cons (pv 1) (pa_cons pe_int pa_nil))) (fun _ _ => rfl)))
      (pss_cons (ps_set (i := 10) scSp2.nd rfl (Or.inl rfl) (pe_lst (pc_c pe_int (pc_c pe_int (pc_c pe_int (pc_c pe_int pa_nil))))))
      (pss_cons (ps_asg (pv 9) (pg_sub (pv 10) (pv 7) set_list))
      (pss_cons (ps_if (pt_cmpR op_eq (pe_call GT hr1 rfl mT kT bT .nil pass0 (pa_cons (pv 1) (pa_cons pe_int pa_nil))) pe_int (nomark _)) (pss_one (ps_asg (pe_op op_pow pe_int pe_int) (pg_sub (pv 10) pe_int set_list))) pss_nil)
      ht2))))), ?_⟩
    intro v5 v6 sp rp tp a b G K0 g0 ha hb hsp hrp htp
    refine ⟨_, rfl, p, a, b, 4, rfl, g0, ha, hb, by decide, by decide, fun pl a1 b1 G1 pl0 pl1 ha1 hb1 g1 k1 => ?_⟩
    have K1 := K0.trans k1
    have t01 : Tups G G1 := Tups.but g0 k1
    have lo := nb.sk.lo
    obtain ⟨sp', ys, es, hys, hyd⟩ := Hold.tupI hsp
    cases es
    have lw : ys.length = n.ws.length := by rw [hyd.length, List.length_map]
    obtain ⟨ix, eix, ix0, ix1⟩ : ∃ ix : Int, (if ((ys.length : Nat) : Int) - 1 < pl % 2 then ((ys.length : Nat) : Int) - 1 else pl % 2) = ix ∧ 0 ≤ ix ∧ ix < (n.ws.length : Int) := ⟨_, rfl, by split <;> omega, by split <;> omega⟩
    obtain ⟨ys', b', x', c', hys', ly', eb, hbt, ew⟩ := cnt_open (i := ix.toNat) hsp (by omega)
    have h6 := nb.sk.cnt _ (List.mem_of_getElem? ew)
    have eat : atI ys' ix = some (.ref b') := by
      have z : atI ys' ((ix.toNat : Nat) : Int) = some (.ref b') := atI_nat eb
      rwa [show ((ix.toNat : Nat) : Int) = ix by omega] at z
    refine ⟨_, rfl, _, rfl, _, _, rfl, rfl, (by show (0 : Int) < 2; decide), _, rfl, sp, _, rfl, .inr (hys.tups t01), _, _, rfl, rfl, _, _, rfl, ?_⟩
    rw [eix]
    refine ⟨sp, _, _, _, rfl, rfl, hys'.tups t01, eat, b', _, _, _, rfl, rfl, hbt.tups t01, at1' _ _ _, ?_⟩
    refine ⟨1, rfl, _, rfl, _, rfl, _, _, rfl, rfl, _, _, rfl, rfl, ⟨by decide, by decide, by decide⟩, _, rfl, _, _, rfl, rfl, 1, rfl, _, _, rfl, rfl, ⟨by decide, by decide, by decide⟩, _, _, rfl, rfl, (by show 5 ≤ sizeLine; decide), fun l2 hl2 => ?_⟩
    have pl2 : p ≠ l2 := ne_of_none g1 hl2
    refine ⟨_, rfl, p, a1, b1, 5, rfl, (by rw [upd_ne pl2]; exact g1), ha1, hb1, by decide, by decide, fun v2 a2 b2 G2 v20 v21 ha2 hb2 g2 k2 => ?_⟩
    obtain ⟨far, fm, fe⟩ := menu (ns := [-1, (c' : Int), (c' : Int) + 1, (10 : Int) ^ ((59 : Int).toNat) + (c' : Int), -1 - (10 : Int) ^ ((58 : Int).toNat)]) v20 v21
    have flog : far.natAbs.log2 < 1000 := by
      refine log_small ?_
      rw [p59, p58] at fm
      simp only [List.mem_cons, List.not_mem_nil, or_false] at fm
      omega
    have K2 : Keep p H G2 := (K1.new hl2 _).trans k2
    refine ⟨l2, _, _, _, rfl, rfl, SqL.of (k2 _ _ pl2.symm upd_same), fe, ?_⟩
    refine ⟨(by show 4 ≤ sizeLine; decide), fun lt nlt => ?_⟩
    have plt : p ≠ lt := ne_of_none g2 nlt
    refine ⟨_, rfl, _, rfl, _, rfl, lt, _, _, _, rfl, rfl, upd_same, ixN_nat pl0 pl1, ?_⟩
    obtain ⟨zs, ezs, lzs, hzs⟩ : ∃ zs : List Int, ([V.int 0, V.int 0, V.int 0, V.int 0] : List V).set pl.toNat (.int far) = zs.map V.int ∧ zs.length = 4 ∧ ∀ z ∈ zs, z.natAbs.log2 < 1000 := by
      refine ⟨([0, 0, 0, 0] : List Int).set pl.toNat far, ?_, by simp, fun z hz => ?_⟩
      · rw [List.map_set]; rfl
      · rcases List.mem_or_eq_of_mem_set hz with z' | z'
        · simp at z'; rw [z']; decide
        · rw [z']; exact flog
    rw [ezs]
    generalize hG3 : upd (upd G2 lt (.lst [.int 0, .int 0, .int 0, .int 0])) lt (.lst (zs.map V.int)) = G3
    have g3l : G3 lt = some (.lst (zs.map V.int)) := by rw [← hG3, upd_same]
    have s23 : Same G2 G3 := fun c u z => by rw [← hG3, upd_ne (ne_of_none z nlt), upd_ne (ne_of_none z nlt)]; exact z
    have K3 : Keep p H G3 := fun c u hc z => s23 c u (K2 c u hc z)
    have g3 := s23 _ _ g2
    have t03 : Tups G G3 := (t01.trans ((Tups.of (same_new hl2 _)).trans (Tups.but (by rw [upd_ne pl2]; exact g1) k2))).trans (Tups.of s23)
    clear hG3
    have fT : ∀ l : List (List Num), (Da.tup (l.map tieD)).fix = true := fun l => by rw [Da.fix]; exact fixL_map (fun t => by unfold tieD; rw [Da.fix]; exact fixL_map (fun _ => rfl) t) l
    have fR : ∀ l : List Say, (Da.tup (l.map Say.da)).fix = true := fun l => by rw [Da.fix]; exact fixL_map da_fix l
    refine ⟨_, rfl, p, a2, b2, 3, rfl, g3, ha2, hb2, by decide, by decide, fun v3 a3 b3 G4 v30 v31 ha3 hb3 g4 k4 => ?_⟩
    have t34 : Tups G3 G4 := Tups.but g3 k4
    have t04 := t03.trans t34
    have K4 := K3.trans k4
    have g4l := k4 _ _ plt.symm g3l
    refine ⟨rfl, _, rfl, ite2 (fun _ => ?_) (fun _ => ?_)⟩
    · refine ⟨_, _, rfl, rfl, ⟨by decide, by decide, by decide⟩, _, rfl, lt, _, _, _, rfl, rfl, g4l, (by rw [List.length_map, lzs]; rfl), ?_⟩
      have e5 : (zs.map V.int).set 3 (.int ((10 : Int) ^ ((50 : Int).toNat))) = (zs.set 3 ((10 : Int) ^ ((50 : Int).toNat))).map V.int := by rw [List.map_set]
      refine hq2 _ _ _ _ _ sp rp tp lt a3 b3 (zs.set 3 ((10 : Int) ^ ((50 : Int).toNat))) _ (fun c u hc z => ?_) (by rw [upd_ne plt]; exact g4) ha3 hb3 (Hold.stay (t04.trans (Tups.put g4l _)) (speech_fix n.ws) hsp) (Hold.stay (t04.trans (Tups.put g4l _)) (fR _) hrp) (Hold.stay (t04.trans (Tups.put g4l _)) (fT _) htp) ?_ plt.symm (by rw [List.length_set]; exact lzs) fun z hz => ?_
      · have z1 := K4 c u hc z
        by_cases w0 : c = lt
        · have hc2 : H lt = none := by
            cases e9 : H lt with
            | none => rfl
            | some o9 =>
              have := K2 lt o9 plt.symm e9
              rw [nlt] at this; cases this
          rw [w0, hc2] at z; cases z
        · rw [upd_ne w0]; exact z1
      · rw [upd_same]
        exact congrArg (fun y => some (HO.lst y)) e5
      · rcases List.mem_or_eq_of_mem_set hz with z' | z'
        · exact hzs z z'
        · rw [z', p50]; exact log_small ⟨by decide, by decide⟩
    · exact hq2 _ _ _ _ _ sp rp tp lt a3 b3 zs G4 K4 g4 ha3 hb3 (Hold.stay t04 (speech_fix n.ws) hsp) (Hold.stay t04 (fR _) hrp) (Hold.stay t04 (fT _) htp) g4l plt.symm lzs hzs
  obtain ⟨tt, ht, hq⟩ := tail
  refine ⟨_, pss_cons (ps_asg (pv 0) (pg_tup rfl (pgs_cons (pg_name (i := 2) scSp2.nd rfl (Or.inl rfl)) (pgs_cons (pg_name (i := 3) scSp2.nd rfl (Or.inl rfl)) (pgs_cons (pg_name (i := 4) scSp2.nd rfl (Or.inl rfl)) pgs_nil)))))
    (pss_cons (ps_set (i := 5) scSp2.nd rfl (Or.inl rfl) (pe_call GT hr1 rfl mT kT bT .nil pass0 (pa_cons (pv 1) (pa_cons pe_int pa_nil))))
    (pss_cons (ps_if (pt_cmpR op_eq (pv 5) pe_int (nomark _)) (pss_one (ps_ret (pe_tup (pa_cons (pe_slice sl_tupW (pv 2) po_none (po_some pe_int)) (pc_n (pv 3) (pc_n (pv 4) pa_nil)))))) pss_nil)
    (pss_cons (ps_if (pt_cmpR op_eq (pv 5) pe_int (nomark _)) (pss_one (ps_ret (pe_tup (pc_n (pv 2) (pa_cons (pe_ix ix_list (pe_lst (pa_cons (pe_slice sl_tupW (pv 3) po_none (po_some (pe_un un_neg pe_int))) (pa_cons (pe_op (r := fun x y H Q => rCatT K x y H Q ∨ rCatT0 K x y H Q) op_catTT (pv 3) (pe_slice sl_tupW (pv 3) po_none (po_some pe_int))) pa_nil)))
        (pe_call GT hr1 rfl mT kT bT .nil pass0 (pa_cons (pv 1) (pa_cons pe_int pa_nil))) (fun _ _ => rfl)) (pc_n (pv 4) pa_nil)))))) pss_nil)
    (pss_cons (ps_if (PW.pt (pw_and (pt_cmpR op_lt (pv 5) pe_int (nomark _)) (pw_and1 (pt_cmpR (op_neT0 hr.units) (pv 3) (pe_tup pa_nil) (nomark _)))))
      (pss_cons (ps_set (i := 6) scSp2.nd rfl (Or.inl rfl) (pe_call GT hr1 rfl mT kT bT .nil pass0 (pa_cons (pv 1) (pa_cons (pe_callB call_len_seq rfl ml PySem.boot_len (pa_cons (pv 3) pa_nil)) pa_nil))))
      (pss_one (ps_ret (pe_tup (pc_n (pv 2) (pa_cons (pe_op (r := fun x y H Q => rCatT K x y H Q ∨ rCatT0 K x y H Q) op_catTT (pe_op (r := fun x y H Q => rCatT K x y H Q ∨ rCatT0 K x y H Q) op_catTT (pe_slice sl_tupW (pv 3) po_none (po_some (pv 6))) (pe_tup (pa_cons (pe_call GS hr rfl mS kS bS .nil pass0 (pa_cons (pv 1) (pa_cons (pv 2) (pa_cons (pe_ix ix_tup (pv 3) (pv 6) (fun _ _ => rfl)) pa_nil)))) pa_nil)))
        (pe_slice sl_tupW (pv 3) (po_some (pe_op op_add (pv 6) pe_int)) po_none)) (pc_n (pv 4) pa_nil))))))) pss_nil) ht)))), ?_⟩
  obtain ⟨c, sp, rp, tp, rs, ts, rfl, hc, hsp, hrp, hrs, htp, hts⟩ := net_open hx
  have hR : Hold K H (.ref rp) (.tup (n.rules.map Say.da)) := .tup hrp hrs
  have hT : Hold K H (.ref tp) (.tup (n.ties.map tieD)) := .tup htp hts
  have lr : rs.length = n.rules.length := by rw [hrs.length, List.length_map]
  have fT : ∀ l : List (List Num), (Da.tup (l.map tieD)).fix = true := fun l => by rw [Da.fix]; exact fixL_map (fun t => by unfold tieD; rw [Da.fix]; exact fixL_map (fun _ => rfl) t) l
  have fR : ∀ l : List Say, (Da.tup (l.map Say.da)).fix = true := fun l => by rw [Da.fix]; exact fixL_map da_fix l
  refine ⟨_, rfl, c, _, rfl, hc, rfl, _, _, rfl, _, _, rfl, _, _, rfl, rfl, ?_⟩
  refine ⟨_, rfl, p, a, b, 6, rfl, hp, ha, hb, by decide, by decide, fun so a1 b1 G1 so0 so1 ha1 hb1 g1 k1 => ?_⟩
  have t1 : Tups H G1 := Tups.but hp k1
  have hsp1 := Hold.stay t1 (speech_fix n.ws) hsp
  have hR1 := Hold.stay t1 (fR _) hR
  have hT1 := Hold.stay t1 (fT _) hT
  have fin : ∀ (y : V) (m : Net) (G : Hp), Same G1 G → Hold K G y m.da → NetB m (k + 1) → Q y G := fun y m G sG hy hm => q y m a1 b1 G (fun c u hc z => sG c u (k1 c u hc z)) (sG _ _ g1) ha1 hb1 hy hm
  have rl := nb.rl
  refine ⟨_, rfl, rfl, _, rfl, ite2 (fun _ => ?_) (fun _ => ?_)⟩
  · -- one field alone
    refine ⟨_, rfl, _, rfl, cut_hold hsp1 fun sp2 G2 s2 h2 => ⟨_, rfl, _, rfl, (by show 3 ≤ sizeLine; decide), fun t9 n9 => ?_⟩⟩
    rw [cutL_map, show (some (1 : Int)) = some (((1 : Nat) : Int)) from rfl, cut_take] at h2
    refine fin (.ref t9) ⟨n.ws.take 1, n.rules, n.ties⟩ _ (Same.trans s2 (sameN n9 _)) (Net.mk_da n9 h2 (Hold.mono s2 hR1) (Hold.mono s2 hT1)) ?_
    exact ⟨nb.sk.one, Nat.le_succ_of_le nb.rl, fun s hs => Nat.le_trans (nb.sz s hs) (by omega), nb.tl, nb.four⟩
  refine ⟨_, rfl, rfl, _, rfl, ite2 (fun _ => ?_) (fun _ => ?_)⟩
  · -- a rule too few or too many
    refine ⟨_, rfl, _, rfl, 1, rfl, _, rfl, cut_hold hR1 fun r2 G2 s2 h2 => ?_⟩
    rw [cutL_map, cut_init] at h2
    have hR2 := Hold.mono s2 hR1
    refine ⟨_, rfl, _, rfl, _, rfl, cut_hold hR2 fun r3 G3 s3 h3 => ?_⟩
    rw [cutL_map, show (some (1 : Int)) = some (((1 : Nat) : Int)) from rfl, cut_take] at h3
    have hR3 := Hold.mono s3 hR2
    refine cat_hold hR3 h3 ?_ fun r4 G4 s4 h4 => ⟨(by show 2 ≤ sizeLine; decide), fun l nl => ?_⟩
    · rw [List.length_map, List.length_map, List.length_take]; omega
    rw [← List.map_append] at h4
    have s14 : Same G1 G4 := Same.trans (Same.trans s2 s3) s4
    have g4 := s14 _ _ g1
    have pnl : p ≠ l := ne_of_none g4 nl
    refine ⟨_, rfl, p, a1, b1, 2, rfl, (by rw [upd_ne pnl]; exact g4), ha1, hb1, by decide, by decide, fun v a5 b5 G5 v0 v1 ha5 hb5 g5 k5 => ?_⟩
    have t45 : Tups G4 G5 := (Tups.of (sameN nl _)).trans (Tups.but (by rw [upd_ne pnl]; exact g4) k5)
    have K5 : Keep p H G5 := fun c u hc z => k5 c u hc (sameN nl _ c u (s14 c u (k1 c u hc z)))
    have gl5 := k5 _ _ pnl.symm upd_same
    have fin5 : ∀ (r : Addr) (rules : List Say), Hold K G5 (.ref r) (.tup (rules.map Say.da)) → rules.length ≤ 6 + (k + 1) → (∀ s ∈ rules, s ∈ n.rules) → ∀ t9, G5 t9 = none → Q (.ref t9) (upd G5 t9 (.tup [.ref sp, .ref r, .ref tp])) := fun r rules hr5 hl hm t9 n9 => by
      refine q (.ref t9) ⟨n.ws, rules, n.ties⟩ a5 b5 _ (fun c u hc z => sameN n9 _ c u (K5 c u hc z)) (sameN n9 _ _ _ g5) ha5 hb5 (Net.mk_da n9 (Hold.stay t45 (speech_fix n.ws) (Hold.mono s14 hsp1)) hr5 (Hold.stay t45 (fT _) (Hold.mono s14 hT1))) ?_
      exact ⟨nb.sk, hl, fun s hs => Nat.le_trans (nb.sz s (hm s hs)) (by omega), nb.tl, nb.four⟩
    have two : v = 0 ∨ v = 1 := by omega
    rcases two with e | e
    · subst e
      refine ⟨l, _, _, _, rfl, rfl, SqL.of gl5, rfl, _, rfl, (by show 3 ≤ sizeLine; decide), fun t9 n9 => ?_⟩
      exact fin5 r2 n.rules.dropLast (Hold.stay t45 (fR _) (Hold.mono (Same.trans s3 s4) h2)) (by rw [List.length_dropLast]; omega) (fun s hs => (List.dropLast_sublist _).subset hs) t9 n9
    · subst e
      refine ⟨l, _, _, _, rfl, rfl, SqL.of gl5, rfl, _, rfl, (by show 3 ≤ sizeLine; decide), fun t9 n9 => ?_⟩
      refine fin5 r4 (n.rules ++ n.rules.take 1) (Hold.stay t45 (fR _) h4) (by rw [List.length_append, List.length_take]; omega) (fun s hs => ?_) t9 n9
      rcases List.mem_append.mp hs with z | z
      · exact z
      · exact List.mem_of_mem_take z
  have hgo : ∀ (v6 : Option V) (G2 : Hp), Same G1 G2 → tt { nx := fun _ H' => Q .non H', rt := Q } [some (.ref c), some (.ref p), some (.ref sp), some (.ref rp), some (.ref tp), some (.int so), v6, none, none, none, none] G2 := fun v6 G2 s2 =>
    hq _ _ sp rp tp a1 b1 G2 (fun c u hc z => s2 c u (k1 c u hc z)) (s2 _ _ g1) ha1 hb1 (Hold.mono s2 hsp1) (Hold.mono s2 hR1) (Hold.mono s2 hT1)
  refine ⟨_, rfl, _, _, rfl, rfl, _, rfl, ?_⟩
  refine ite2 (fun _ => ?_) (fun _ => ?_)
  · refine ⟨_, rfl, (by show 0 ≤ sizeLine; decide), fun t0 n0 => ⟨rp, t0, rs, rfl, rfl, (hrp.tups t1).same (sameN n0 _), SqT.of upd_same, _, rfl, ?_⟩⟩
    have s0 := sameN n0 (.tup [])
    generalize upd G1 t0 (.tup []) = G2 at s0 ⊢
    refine ite2 (fun ne => ?_) (fun _ => ?_)
    · have rne : rs ≠ [] := fun z => by rw [z] at ne; exact absurd ne (by decide)
      have rpos : 0 < rs.length := List.length_pos_iff.mpr rne
      have g2 := s0 _ _ g1
      refine ⟨_, rfl, _, rfl, rp, _, rfl, .inr ((hrp.tups t1).same s0), p, a1, b1, _, rfl, g2, ha1, hb1, by omega, by omega, fun v a3 b3 G3 v0 v1 ha3 hb3 g3 k3 => ?_⟩
      have t13 : Tups G1 G3 := (Tups.of s0).trans (Tups.but g2 k3)
      have K3 : Keep p H G3 := fun c u hc z => k3 c u hc (s0 c u (k1 c u hc z))
      have hR3 := Hold.stay t13 (fR _) hR1
      have ev : v = ((v.toNat : Nat) : Int) := by omega
      refine ⟨_, rfl, _, rfl, _, rfl, _, rfl, cut_hold hR3 fun r4 G4 s4 h4 => ?_⟩
      rw [cutL_map, ev, cut_take] at h4
      obtain ⟨yv, ey, ay⟩ := at_int v0 v1
      obtain ⟨sy, esy, hsy⟩ := hrs.getm ey
      have t4' := t1.trans (t13.trans (Tups.of s4))
      refine ⟨_, rfl, _, rfl, _, rfl, _, rfl, rp, _, _, _, rfl, rfl, hrp.tups t4', ay, p, sp, yv, a3, b3, n.ws, sy, rfl, s4 _ _ g3, ha3, hb3, Hold.stay t4' (speech_fix n.ws) hsp, nb.sk, Hold.stay t4' (da_fix sy) hsy, fun z t a5 b5 G5 k5 g5 ha5 hb5 hz ht => ⟨(by show 1 ≤ sizeLine; decide), fun t6 n6 => ?_⟩⟩
      have t45 : Tups G4 G5 := Tups.but (s4 _ _ g3) k5
      have h6 := new_tup (K := K) n6 (.cons hz .nil)
      have s6 := sameN n6 (.tup [z])
      refine cat_hold (Hold.mono s6 (Hold.stay t45 (fR _) h4)) h6 ?_ fun r7 G7 s7 h7 => ?_
      · rw [List.length_map, List.length_take, List.length_singleton]; omega
      have t17 := (t13.trans (Tups.of s4)).trans (t45.trans ((Tups.of s6).trans (Tups.of s7)))
      have hR7 := Hold.stay t17 (fR _) hR1
      refine ⟨_, rfl, _, rfl, _, _, rfl, rfl, _, rfl, cut_hold hR7 fun r8 G8 s8 h8 => ?_⟩
      rw [cutL_map, ev, show ((v.toNat : Nat) : Int) + 1 = ((v.toNat + 1 : Nat) : Int) by omega, cut_drop] at h8
      refine cat_hold (Hold.mono s8 h7) h8 ?_ fun r9 G9 s9 h9 => ⟨_, rfl, (by show 3 ≤ sizeLine; decide), fun t9 n9 => ?_⟩
      · rw [List.length_append, List.length_map, List.length_map, List.length_singleton, List.length_take, List.length_drop]; omega
      have eR : (n.rules.take v.toNat).map Say.da ++ [t.da] ++ (n.rules.drop (v.toNat + 1)).map Say.da = (n.rules.take v.toNat ++ [t] ++ n.rules.drop (v.toNat + 1)).map Say.da := by
        rw [List.map_append, List.map_append]; rfl
      rw [eR] at h9
      have s59 : Same G5 G9 := Same.trans s6 (Same.trans s7 (Same.trans s8 s9))
      have t19 := t17.trans ((Tups.of s8).trans (Tups.of s9))
      refine q (.ref t9) ⟨n.ws, n.rules.take v.toNat ++ [t] ++ n.rules.drop (v.toNat + 1), n.ties⟩ a5 b5 _ (fun c u hc z => sameN n9 _ c u (s59 c u (k5 c u hc (s4 c u (K3 c u hc z))))) (sameN n9 _ _ _ (s59 _ _ g5)) ha5 hb5 (Net.mk_da n9 (Hold.stay t19 (speech_fix n.ws) hsp1) h9 (Hold.stay t19 (fT _) hT1)) ?_
      have sym := nb.sz sy (List.mem_of_getElem? esy)
      refine ⟨nb.sk, ?_, fun s hs => ?_, nb.tl, nb.four⟩
      · show (n.rules.take v.toNat ++ [t] ++ n.rules.drop (v.toNat + 1)).length ≤ 6 + (k + 1)
        rw [List.length_append, List.length_append, List.length_singleton, List.length_take, List.length_drop]; omega
      · have hs' : s ∈ n.rules.take v.toNat ++ [t] ++ n.rules.drop (v.toNat + 1) := hs
        rcases List.mem_append.mp hs' with z | z
        · rcases List.mem_append.mp z with z | z
          · exact Nat.le_trans (nb.sz s (List.mem_of_mem_take z)) (by omega)
          · rw [List.mem_singleton.mp z]; omega
        · exact Nat.le_trans (nb.sz s (List.mem_of_mem_drop z)) (by omega)
    · exact hgo _ G2 s0
  · exact iteF (hgo _ G1 (Same.refl _))
end
end S7


set_option Elab.async false
set_option maxRecDepth 100000
set_option maxHeartbeats 4000000
/-! k72: what is caught, and held against what is due -/
namespace L2
open PySem Fly
theorem XAs.same {H G : Hp} {e C : Addr} {fs : List (Str × V)} (x : XAs H e C fs) (s : Same H G) : XAs G e C fs := by
  obtain ⟨dx, h1, h2⟩ := x
  exact ⟨dx, h1.imp (s _ _) (s _ _), s _ _ h2⟩
theorem IsX.same {H G : Hp} {e C : Addr} (x : IsX H e C) (s : Same H G) : IsX G e C := by
  rcases x with ⟨d, x⟩ | ⟨d, x⟩
  · exact .inl ⟨d, s _ _ x⟩
  · exact .inr ⟨d, s _ _ x⟩
section
variable {X : Cx}
theorem passN {P : Program} {w : World} : Passes (CXx P w) X E0 := fun _ _ _ _ _ _ _ h => by
  obtain ⟨_, _, _, _, _, _, _, _, _, _, _, _, _, _, z⟩ := h
  exact False.elim z
end
end L2
namespace S7
open PySem L2 Fly PyProof.Rows
section
variable {K : PySem.W.Frag} {cS cF cV cT cP cN : Addr}
/-- how a refusal is raised; how it is caught -/
def RAt (K : PySem.W.Frag) (cF cV cT cP cN : Addr) (H : Hp) (C : Addr) (dx : Option Addr) : NF → Prop
  | .net => C = cN ∧ dx = none
  | .flt (.field z) => C = cF ∧ ∃ d, dx = some d ∧ H d = some (.xd [("field", .str z)])
  | .flt (.value v) => C = cV ∧ ∃ d, dx = some d ∧ H d = some (.xd [("value", .int v)])
  | .flt (.test t) => C = cT ∧ ∃ d y, dx = some d ∧ H d = some (.xd [("saying", y)]) ∧ Hold K H y t.da
  | .plain t => C = cP ∧ ∃ d y, dx = some d ∧ H d = some (.xd [("saying", y)]) ∧ Hold K H y t.da
def CAt (K : PySem.W.Frag) (cF cV cT cP cN : Addr) (H : Hp) (e : Addr) : NF → Prop
  | .net => IsX H e cN
  | .flt (.field z) => XAs H e cF [("field", .str z)]
  | .flt (.value v) => XAs H e cV [("value", .int v)]
  | .flt (.test t) => ∃ y, XAs H e cT [("saying", y)] ∧ Hold K H y t.da
  | .plain t => ∃ y, XAs H e cP [("saying", y)] ∧ Hold K H y t.da
theorem NOut.mk {H : Hp} {E : XK} {f : NF} (h : ∀ C dx H', Same H H' → RAt K cF cV cT cP cN H' C dx f → E (.ref C) dx H') : NOut K H E cF cV cT cP cN f := by
  cases f with
  | net => exact fun H' s => h cN none H' s ⟨rfl, rfl⟩
  | flt f =>
    cases f with
    | field z => exact fun dx H' s e => h cF (some dx) H' s ⟨rfl, dx, rfl, e⟩
    | value v => exact fun dx H' s e => h cV (some dx) H' s ⟨rfl, dx, rfl, e⟩
    | test t => exact fun dx y H' s e k => h cT (some dx) H' s ⟨rfl, dx, y, rfl, e, k⟩
  | plain t => exact fun dx y H' s e k => h cP (some dx) H' s ⟨rfl, dx, y, rfl, e, k⟩
theorem RAt.caught {H : Hp} {C e : Addr} {dx : Option Addr} {f : NF} (r : RAt K cF cV cT cP cN H C dx f) (he : H e = none) : CAt K cF cV cT cP cN (upd H e (XOld e C dx)) e f := by
  have xa : ∀ {d : Addr} {fs : List (Str × V)}, H d = some (.xd fs) → XAs (upd H e (XOld e C (some d))) e C fs := fun {d fs} q => ⟨d, .inr upd_same, by rw [upd_ne (ne_of_none q he)]; exact q⟩
  have sm : ∀ o, Same H (upd H e o) := fun o b u q => by rw [upd_ne (ne_of_none q he)]; exact q
  cases f with
  | net => obtain ⟨rfl, rfl⟩ := r; exact .inr ⟨_, upd_same⟩
  | flt f =>
    cases f with
    | field z => obtain ⟨rfl, d, rfl, q⟩ := r; exact xa q
    | value v => obtain ⟨rfl, d, rfl, q⟩ := r; exact xa q
    | test t => obtain ⟨rfl, d, y, rfl, q, k⟩ := r; exact ⟨y, xa q, Hold.mono (sm _) k⟩
  | plain t => obtain ⟨rfl, d, y, rfl, q, k⟩ := r; exact ⟨y, xa q, Hold.mono (sm _) k⟩
structure Exm (K : PySem.W.Frag) (cS cF cV cT cP cN : Addr) : Prop where
  F : PySem.W.exmOne K (.ref cF) (.ref cS) = some true
  V : PySem.W.exmOne K (.ref cV) (.ref cS) = some true
  T : PySem.W.exmOne K (.ref cT) (.ref cS) = some true
  P : PySem.W.exmOne K (.ref cP) (.ref cS) = some true
  N : PySem.W.exmOne K (.ref cN) (.ref cS) = some true
theorem RAt.exm {H : Hp} {C : Addr} {dx : Option Addr} {f : NF} (r : RAt K cF cV cT cP cN H C dx f) (x : Exm K cS cF cV cT cP cN) : PySem.W.exmOne K (.ref C) (.ref cS) = some true := by
  cases f with
  | net => obtain ⟨rfl, _⟩ := r; exact x.N
  | flt f =>
    cases f with
    | field z => obtain ⟨rfl, _⟩ := r; exact x.F
    | value v => obtain ⟨rfl, _⟩ := r; exact x.V
    | test t => obtain ⟨rfl, _⟩ := r; exact x.T
  | plain t => obtain ⟨rfl, _⟩ := r; exact x.P
end
def spCaught (K : PySem.W.Frag) (cF cV cT cP cN : Addr) : Sp := fun vs H Q _ => ∃ (wy : Int) (x : V) (n : Net) (f : NF), vs = [.int wy, x] ∧ 0 ≤ wy ∧ wy < 4 ∧ Hold K H x n.da ∧ NetOk n ∧ 1 ≤ n.ws.length ∧ n.ws.length ≤ 3 ∧ n.due = some f ∧ ∀ e H', Same H H' → CAt K cF cV cT cP cN H' e f → Q (.ref e) H'
abbrev nCa : List Str := ["_law_way", "_law_net_here", "_law_caught_here", "_law_e"]
section
variable {P : Program} {w : World} {K : PySem.W.Frag} {mg : Str → Option Value} {base : Heap} {cS cF cV cT cP cG cN : Addr}
theorem scCa : FnScope nCa ["_law_way", "_law_net_here"] (defScope sCaught) := ⟨rfl, rfl, rfl, by decide +kernel, rfl, by decide +kernel, by decide +kernel⟩
theorem ok_caught {f fN fH fS fT : Addr} {fd dN dH dS dT : FuncData} (F : Fun K "_law_caught" "_law_caught" sCaught f fd) (ex : Exm K cS cF cV cT cP cN) (mS : mg "SwitchError" = some (.ref cS))
    (GN : FnOk P w K mg base (CXx P w) 7 fN dN ["net"] (spMN K cF cV cT cP cN)) (bN : Binds K dN ["net"] []) (kN : PySem.W.keepIn K (.ref fN) = true) (mN : mg "must_net" = some (.ref fN))
    (GH : FnOk P w K mg base (CXx P w) 8 fH dH ["net", "letter", "count"] (spBad K cF cV cT cP cN 2)) (bH : Binds K dH ["net", "letter", "count"] []) (kH : PySem.W.keepIn K (.ref fH) = true) (mH : mg "hops" = some (.ref fH))
    (GS : FnOk P w K mg base (CXx P w) 8 fS dS ["net"] (spBad K cF cV cT cP cN 0)) (bS : Binds K dS ["net"] []) (kS : PySem.W.keepIn K (.ref fS) = true) (mY : mg "saying_of" = some (.ref fS))
    (GT : FnOk P w K mg base (CXx P w) 8 fT dT ["net"] (spBad K cF cV cT cP cN 0)) (bT : Binds K dT ["net"] []) (kT : PySem.W.keepIn K (.ref fT) = true) (mT : mg "tables_of" = some (.ref fT)) (ml : mg "len" = none) :
    FnOk P w K mg base CX0 9 f fd ["_law_way", "_law_net_here"] (spCaught K cF cV cT cP cN) := by
  refine F.ok scCa (fun vs H Q E h => ?_) (fun cdv A outer s H vs Q E hr h => ?_)
  · obtain ⟨wy, x, n, ff, rfl, _⟩ := h
    rfl
  obtain ⟨wy, x, n, ff, rfl, wy0, wy4, hx, nk, w1, w3, du, q⟩ := h
  refine ⟨_, pss_cons (ps_set (i := 2) scCa.nd rfl (Or.inl rfl) pe_non)
    (pss_cons (ps_tryT (i := 3) (j := 2) (fun pins EX =>
      pss_cons (ps_if (pt_cmpR op_eq (pv 0) pe_int (nomark _)) (pss_one (ps_callT GN (hr.mono (by decide)) rfl mN kN bN (pa_cons (pv 1) pa_nil))) pss_nil)
      (pss_cons (ps_if (pt_cmpR op_eq (pv 0) pe_int (nomark _)) (pss_one (ps_callT GH hr rfl mH kH bH (pa_cons (pv 1) (pa_cons (pe_op (r := rRepT K) op_repT (pe_tup (pc_c pe_int pa_nil)) (pe_callB (r := fun xs H Q => ∃ p ys, xs = [V.ref p] ∧ (SqL K H p ys ∨ SqT K H p ys) ∧ Q (V.int ys.length) H) call_len_seq rfl ml PySem.boot_len (pa_cons (pe_ix (r := rIxT K) ix_tup (pv 1) pe_int (fun _ _ => rfl)) pa_nil))) (pa_cons pe_int pa_nil))))) pss_nil)
      (pss_cons (ps_if (pt_cmpR op_eq (pv 0) pe_int (nomark _)) (pss_one (ps_callT GS hr rfl mY kS bS (pa_cons (pv 1) pa_nil))) pss_nil)
      (pss_one (ps_if (pt_cmpR op_eq (pv 0) pe_int (nomark _)) (pss_one (ps_callT GT hr rfl mT kT bT (pa_cons (pv 1) pa_nil))) pss_nil))))) rfl mS rfl rfl scCa.nd rfl rfl rfl rfl)
    (pss_one (ps_ret (pv 2)))), ?_⟩
  have e1 : ∀ i j : Int, i = j → decide (V.int i = V.int j) = true := fun i j e => by rw [e]; exact decide_eq_true rfl
  have e2 : ∀ i j : Int, i ≠ j → decide (V.int i = V.int j) = false := fun i j e => decide_eq_false fun z => e (by injection z)
  have four : wy = 0 ∨ wy = 1 ∨ wy = 2 ∨ wy = 3 := by omega
  rcases four with e | e | e | e
  · subst e
    refine ⟨_, rfl, rfl, _, rfl, ?_⟩
    rw [e1 0 0 rfl]
    refine iteT ⟨_, rfl, x, n, rfl, hx, nk, (fun z => by rw [du] at z; cases z), fun f' z => ?_⟩
    rw [du] at z; cases z
    exact NOut.mk fun C dx H' s' ra => ⟨C, rfl, ra.exm ex, fun e he => ⟨_, rfl, q e _ (Same.trans s' (fun b u z => by rw [upd_ne (ne_of_none z he)]; exact z)) (ra.caught he)⟩⟩
  · subst e
    obtain ⟨a, sp, rp, tp, rs, ts, rfl, ha, hsp, hrp, hrs, htp, hts⟩ := net_open hx
    obtain ⟨sp', ys, es, hys, hyd⟩ := Hold.tupI hsp
    cases es
    have lw : ys.length = n.ws.length := by rw [hyd.length, List.length_map]
    refine ⟨_, rfl, rfl, _, rfl, ?_⟩
    rw [e2 1 0 (by decide)]
    refine iteF ⟨_, rfl, rfl, _, rfl, ?_⟩
    rw [e1 1 1 rfl]
    refine iteT ⟨_, rfl, (by show 1 ≤ sizeLine; decide), fun t ht => ?_⟩
    have st : Same H (upd H t (.tup [.int 0])) := fun b u z => by rw [upd_ne (ne_of_none z ht)]; exact z
    refine ⟨_, rfl, a, _, _, _, rfl, rfl, ha.same st, at0' _ _, sp, _, rfl, .inr (hys.same st), t, .int 0, ((ys.length : Nat) : Int), rfl, rfl, upd_same, by omega, by omega, fun p G sG => ?_⟩
    have sA := Same.trans st sG
    refine ⟨.ref a, [.ref p, .int 1], n, ff, rfl, rfl, Hold.mono sA hx, nk, du, ?_⟩
    exact NOut.mk fun C dx H' s' ra => ⟨C, rfl, ra.exm ex, fun e he => ⟨_, rfl, q e _ (Same.trans (Same.trans sA s') (fun b u z => by rw [upd_ne (ne_of_none z he)]; exact z)) (ra.caught he)⟩⟩
  · subst e
    refine ⟨_, rfl, rfl, _, rfl, ?_⟩
    rw [e2 2 0 (by decide)]
    refine iteF ⟨_, rfl, rfl, _, rfl, ?_⟩
    rw [e2 2 1 (by decide)]
    refine iteF ⟨_, rfl, rfl, _, rfl, ?_⟩
    rw [e1 2 2 rfl]
    refine iteT ⟨_, rfl, x, [], n, ff, rfl, rfl, hx, nk, du, ?_⟩
    exact NOut.mk fun C dx H' s' ra => ⟨C, rfl, ra.exm ex, fun e he => ⟨_, rfl, q e _ (Same.trans s' (fun b u z => by rw [upd_ne (ne_of_none z he)]; exact z)) (ra.caught he)⟩⟩
  · subst e
    refine ⟨_, rfl, rfl, _, rfl, ?_⟩
    rw [e2 3 0 (by decide)]
    refine iteF ⟨_, rfl, rfl, _, rfl, ?_⟩
    rw [e2 3 1 (by decide)]
    refine iteF ⟨_, rfl, rfl, _, rfl, ?_⟩
    rw [e2 3 2 (by decide)]
    refine iteF ⟨_, rfl, rfl, _, rfl, ?_⟩
    rw [e1 3 3 rfl]
    refine iteT ⟨_, rfl, x, [], n, ff, rfl, rfl, hx, nk, du, ?_⟩
    exact NOut.mk fun C dx H' s' ra => ⟨C, rfl, ra.exm ex, fun e he => ⟨_, rfl, q e _ (Same.trans s' (fun b u z => by rw [upd_ne (ne_of_none z he)]; exact z)) (ra.caught he)⟩⟩
end
end S7


set_option Elab.async false
set_option maxRecDepth 100000
set_option maxHeartbeats 4000000
/-! k72: what is caught, held against what is due; the law -/
namespace S7
open PySem L2 Fly PyProof.Rows
theorem da_dep (s : Say) : s.da.dep ≤ s.size := by
  induction s with
  | no s ih => simp only [Say.da, Da.dep, depL, Say.size]; omega
  | again s ih => simp only [Say.da, Da.dep, depL, Say.size]; omega
  | either a b ia ib => simp only [Say.da, Da.dep, depL, Say.size]; omega
  | both a b ia ib => simp only [Say.da, Da.dep, depL, Say.size]; omega
  | _ => simp only [Say.da, Da.dep, depL, Say.size]; omega
/-- what of a refusal's class the law asks -/
structure Kd (K : PySem.W.Frag) (cF cV cT cP cG cN C : Addr) (b1 b2 b3 b4 b5 : Bool) : Prop where
  x : XCls K C
  k : PySem.W.findIn K (.ref C) "__class__" = some (some (.builtin "object.__class__"))
  v : PySem.W.kitOne K (.ref C) (.type "ValueError") = some true
  t : PySem.W.kitOne K (.ref C) (.ref cG) = some false
  f1 : PySem.W.kitOne K (.ref C) (.ref cF) = some b1
  f2 : PySem.W.kitOne K (.ref C) (.ref cV) = some b2
  f3 : PySem.W.kitOne K (.ref C) (.ref cT) = some b3
  f4 : PySem.W.kitOne K (.ref C) (.ref cP) = some b4
  f5 : PySem.W.kitOne K (.ref C) (.ref cN) = some b5
structure XG (K : PySem.W.Frag) (mg : Str → Option Value) (cF cV cT cP cG cN : Addr) : Prop where
  mF : mg "NoField" = some (.ref cF)
  mV : mg "NoValue" = some (.ref cV)
  mT : mg "NoTest" = some (.ref cT)
  mP : mg "NoPlain" = some (.ref cP)
  mG : mg "TooGreat" = some (.ref cG)
  mN : mg "NoNet" = some (.ref cN)
  F : Kd K cF cV cT cP cG cN cF true false false false false
  V : Kd K cF cV cT cP cG cN cV false true false false false
  T : Kd K cF cV cT cP cG cN cT false false true false false
  P : Kd K cF cV cT cP cG cN cP false false false true false
  N : Kd K cF cV cT cP cG cN cN false false false false true
  aF : NoAttr K cF "field"
  aV : NoAttr K cV "value"
  aT : NoAttr K cT "saying"
  aP : NoAttr K cP "saying"
def NF.sz : NF → Nat
  | .flt (.test t) => t.size
  | .plain t => t.size
  | _ => 0
def spRefused (K : PySem.W.Frag) (cF cV cT cP cN : Addr) : Sp := fun vs H Q _ => ∃ (e r : Addr) (f : NF), vs = [.ref e, .ref r] ∧ CAt K cF cV cT cP cN H e f ∧ NDueAt K H r (some f) ∧ f.sz ≤ 58 ∧ ∀ H', Same H H' → Q (.bl true) H'
abbrev nRe : List Str := ["_law_e", "_law_due_here", "_law_found"]
def scWo : Scope := { kind := .function, names := [(".0", .local), ("_law_word", .local), ("_law_due_here", .free)], isGenerator := false, isCoroutine := false, more := [] }
abbrev words5 : List Str := ["field", "value", "test", "plain", "net"]
section
variable {P : Program} {w : World} {K : PySem.W.Frag} {mg : Str → Option Value} {base : Heap} {cS cF cV cT cP cG cN : Addr}
theorem scRe : FnScope nRe ["_law_e", "_law_due_here"] (defScope sRefused) := ⟨rfl, rfl, rfl, by decide +kernel, rfl, by decide +kernel, by decide +kernel⟩
theorem cRe {CX : CXT} {f : Addr} {cdv : Value} {A : Around} {outer : List Env} {s : Shared} {H : Hp} {E : XK} :
    CScope (cxOf CX P w K mg base nRe "_law_refused" (defScope sRefused) f cdv A outer s H E).nox ["_law_word"] ["_law_due_here"] [1] scWo [("_law_due_here", s.heap.objs.size + 1)] := by
  refine cs_of [(".0", .local), ("_law_word", .local), ("_law_due_here", .cell)] (by with_unfolding_all rfl) rfl (by decide +kernel) (by decide +kernel) (fun p hp => ?_) (by with_unfolding_all rfl) (fun p hp hk => ?_) rfl (fun j y e => ?_)
  · cases List.mem_singleton.mp hp
    with_unfolding_all rfl
  · simp only [List.mem_cons, List.not_mem_nil, or_false] at hp
    rcases hp with z | z | z
    · subst z; rcases hk with q | q <;> cases q
    · subst z; rcases hk with q | q <;> cases q
    · subst z; exact ⟨_, by with_unfolding_all rfl⟩
  · match j, e with
    | 0, e =>
      have y' : ("_law_due_here" : Str) = y := Option.some.inj e
      subst y'
      exact ⟨1, rfl, rfl, .inl (by with_unfolding_all rfl), .inl (by with_unfolding_all rfl)⟩
theorem ok_refused {f : Addr} {fd : FuncData} (F : Fun K "_law_refused" "_law_refused" sRefused f fd) (B : XG K mg cF cV cT cP cG cN) (mi : mg "isinstance" = none) (me : mg "ValueError" = none) :
    FnOk P w K mg base CX0 2 f fd ["_law_e", "_law_due_here"] (spRefused K cF cV cT cP cN) := by
  refine F.ok scRe (fun vs H Q E h => ?_) (fun cdv A outer s H vs Q E hr h => ?_)
  · obtain ⟨e, r, ff, rfl, _⟩ := h
    rfl
  obtain ⟨e, r, ff, rfl, ca, nd, z58, q⟩ := h
  have lk1 : ∀ (f : Str) (y : V), List.lookup f [(f, y)] = some y := fun f y => by simp [List.lookup]
  have tail : ∃ tt, PSs (cxOf CX0 P w K mg base nRe "_law_refused" (defScope sRefused) f cdv A outer s H E).nox ((defBody sRefused).drop 3) tt ∧ ∀ (v2 : Option V) (G : Hp), Same H G →
      tt { nx := fun _ H' => Q .non H', rt := Q } [some (.ref e), some (.ref r), v2] G := by
    refine ⟨_, pss_cons (ps_if (pt_cmpR op_eq (pe_ix ix_list (pv 1) pe_int (fun _ _ => rfl)) pe_str (nomark _)) (pss_one (ps_ret (pe_cmpR op_eq (pe_xget (pv 0) rfl) (pe_ix ix_list (pv 1) pe_int (fun _ _ => rfl)) (nomark _)))) pss_nil)
      (pss_cons (ps_if (pt_cmpR op_eq (pe_ix ix_list (pv 1) pe_int (fun _ _ => rfl)) pe_str (nomark _)) (pss_one (ps_ret (pe_cmpR op_eq (pe_xget (pv 0) rfl) (pe_ix ix_list (pv 1) pe_int (fun _ _ => rfl)) (nomark _)))) pss_nil)
      (pss_one (ps_ret (pe_or (pe_cmpR op_eq (pe_ix ix_list (pv 1) pe_int (fun _ _ => rfl)) pe_str (nomark _)) (pe_one (pe_cmpR (op_eqS hr.units) (pe_xget (pv 0) rfl) (pe_ix ix_list (pv 1) pe_int (fun _ _ => rfl)) (nomark _))))))), ?_⟩
    intro v2 G sG
    have dn : ∀ x y : Str, x ≠ y → decide (V.str x = V.str y) = false := fun x y h => decide_eq_false fun z => h (by injection z)
    cases ff with
    | net =>
      have gr : G r = some (.lst [.str "net", .non]) := sG _ _ nd
      refine ⟨_, rfl, r, _, _, _, rfl, rfl, SqL.of gr, at0' _ _, rfl, _, rfl, ?_⟩
      rw [dn "net" "field" (by decide +kernel)]
      refine iteF ⟨_, rfl, r, _, _, _, rfl, rfl, SqL.of gr, at0' _ _, rfl, _, rfl, ?_⟩
      rw [dn "net" "value" (by decide +kernel)]
      refine iteF ⟨_, rfl, r, _, _, _, rfl, rfl, SqL.of gr, at0' _ _, rfl, _, rfl, ?_⟩
      rw [decide_eq_true rfl]
      exact iteT (q G sG)
    | flt ff =>
      cases ff with
      | field z =>
        have gr : G r = some (.lst [.str "field", .str z]) := sG _ _ nd
        have xa : XAs G e cF [("field", .str z)] := XAs.same ca sG
        refine ⟨_, rfl, r, _, _, _, rfl, rfl, SqL.of gr, at0' _ _, rfl, _, rfl, ?_⟩
        rw [decide_eq_true rfl]
        refine iteT ⟨_, rfl, e, cF, _, _, rfl, B.F.x, B.aF, xa, lk1 _ _, _, rfl, r, _, _, _, rfl, rfl, SqL.of gr, at1' _ _ _, rfl, ?_⟩
        rw [decide_eq_true rfl]
        exact q G sG
      | value z =>
        have gr : G r = some (.lst [.str "value", .int z]) := sG _ _ nd
        have xa : XAs G e cV [("value", .int z)] := XAs.same ca sG
        refine ⟨_, rfl, r, _, _, _, rfl, rfl, SqL.of gr, at0' _ _, rfl, _, rfl, ?_⟩
        rw [dn "value" "field" (by decide +kernel)]
        refine iteF ⟨_, rfl, r, _, _, _, rfl, rfl, SqL.of gr, at0' _ _, rfl, _, rfl, ?_⟩
        rw [decide_eq_true rfl]
        refine iteT ⟨_, rfl, e, cV, _, _, rfl, B.V.x, B.aV, xa, lk1 _ _, _, rfl, r, _, _, _, rfl, rfl, SqL.of gr, at1' _ _ _, rfl, ?_⟩
        rw [decide_eq_true rfl]
        exact q G sG
      | test t =>
        obtain ⟨y', gr0, hy'⟩ := (show ∃ y, H r = some (.lst [.str "test", y]) ∧ Hold K H y t.da from nd)
        obtain ⟨y, xa0, hy⟩ := (show ∃ y, XAs H e cT [("saying", y)] ∧ Hold K H y t.da from ca)
        have gr := sG _ _ gr0
        have t58 : t.size ≤ 58 := z58
        obtain ⟨a1, xs1, rfl, _, _⟩ := da_open hy
        obtain ⟨a2, xs2, rfl, _, _⟩ := da_open hy'
        refine ⟨_, rfl, r, _, _, _, rfl, rfl, SqL.of gr, at0' _ _, rfl, _, rfl, ?_⟩
        rw [dn "test" "field" (by decide +kernel)]
        refine iteF ⟨_, rfl, r, _, _, _, rfl, rfl, SqL.of gr, at0' _ _, rfl, _, rfl, ?_⟩
        rw [dn "test" "value" (by decide +kernel)]
        refine iteF ⟨_, rfl, r, _, _, _, rfl, rfl, SqL.of gr, at0' _ _, rfl, _, rfl, ?_⟩
        rw [dn "test" "net" (by decide +kernel)]
        refine iteF ⟨_, rfl, e, cT, _, _, rfl, B.T.x, B.aT, XAs.same xa0 sG, lk1 _ _, _, rfl, r, _, _, _, rfl, rfl, SqL.of gr, at1' _ _ _, a1, a2, t.da, rfl, rfl, Hold.mono sG hy, Hold.mono sG hy', Nat.le_trans (da_dep t) (by omega), ?_⟩
        exact q G sG
    | plain t =>
      obtain ⟨y', gr0, hy'⟩ := (show ∃ y, H r = some (.lst [.str "plain", y]) ∧ Hold K H y t.da from nd)
      obtain ⟨y, xa0, hy⟩ := (show ∃ y, XAs H e cP [("saying", y)] ∧ Hold K H y t.da from ca)
      have gr := sG _ _ gr0
      have t58 : t.size ≤ 58 := z58
      obtain ⟨a1, xs1, rfl, _, _⟩ := da_open hy
      obtain ⟨a2, xs2, rfl, _, _⟩ := da_open hy'
      refine ⟨_, rfl, r, _, _, _, rfl, rfl, SqL.of gr, at0' _ _, rfl, _, rfl, ?_⟩
      rw [dn "plain" "field" (by decide +kernel)]
      refine iteF ⟨_, rfl, r, _, _, _, rfl, rfl, SqL.of gr, at0' _ _, rfl, _, rfl, ?_⟩
      rw [dn "plain" "value" (by decide +kernel)]
      refine iteF ⟨_, rfl, r, _, _, _, rfl, rfl, SqL.of gr, at0' _ _, rfl, _, rfl, ?_⟩
      rw [dn "plain" "net" (by decide +kernel)]
      refine iteF ⟨_, rfl, e, cP, _, _, rfl, B.P.x, B.aP, XAs.same xa0 sG, lk1 _ _, _, rfl, r, _, _, _, rfl, rfl, SqL.of gr, at1' _ _ _, a1, a2, t.da, rfl, rfl, Hold.mono sG hy, Hold.mono sG hy', Nat.le_trans (da_dep t) (by omega), ?_⟩
      exact q G sG
  obtain ⟨tt, ht, hq⟩ := tail
  obtain ⟨C, tag, y', b1, b2, b3, b4, b5, kd, ix, gr, et⟩ : ∃ (C : Addr) (tag : Str) (y' : V) (b1 b2 b3 b4 b5 : Bool), Kd K cF cV cT cP cG cN C b1 b2 b3 b4 b5 ∧ IsX H e C ∧ H r = some (.lst [.str tag, y']) ∧ words5.map (fun x => decide (V.str tag = V.str x)) = [b1, b2, b3, b4, b5] := by
    cases ff with
    | net => exact ⟨cN, "net", _, _, _, _, _, _, B.N, ca, nd, by decide +kernel⟩
    | flt ff =>
      cases ff with
      | field z => exact ⟨cF, "field", _, _, _, _, _, _, B.F, XAs.isX ca, nd, by decide +kernel⟩
      | value z => exact ⟨cV, "value", _, _, _, _, _, _, B.V, XAs.isX ca, nd, by decide +kernel⟩
      | test t =>
        obtain ⟨y', gr0, hy'⟩ := (show ∃ y, H r = some (.lst [.str "test", y]) ∧ Hold K H y t.da from nd)
        obtain ⟨y, xa0, hy⟩ := (show ∃ y, XAs H e cT [("saying", y)] ∧ Hold K H y t.da from ca)
        exact ⟨cT, "test", _, _, _, _, _, _, B.T, XAs.isX xa0, gr0, by decide +kernel⟩
    | plain t =>
      obtain ⟨y', gr0, hy'⟩ := (show ∃ y, H r = some (.lst [.str "plain", y]) ∧ Hold K H y t.da from nd)
      obtain ⟨y, xa0, hy⟩ := (show ∃ y, XAs H e cP [("saying", y)] ∧ Hold K H y t.da from ca)
      exact ⟨cP, "plain", _, _, _, _, _, _, B.P, XAs.isX xa0, gr0, by decide +kernel⟩
  refine ⟨_, pss_cons (ps_if (PW.pt (pw_or (pt_not (pt_val (pe_callB call_isx rfl mi (by kernel_rfl) (pa_cons (pv 0) (pa_cons (pe_bltn (v := .ty "ValueError") rfl me (by kernel_rfl) rfl) pa_nil)))))
      (pw_or1 (pt_val (pe_callB call_isx rfl mi (by kernel_rfl) (pa_cons (pv 0) (pa_cons (pe_glob (v := .ref cG) rfl B.mG rfl) pa_nil)))))))
      (pss_one (ps_ret pe_bl)) pss_nil)
    (pss_cons (ps_set (i := 2) scRe.nd rfl (Or.inl rfl) (pe_lst (pa_cons (pe_callB call_isx rfl mi (by kernel_rfl) (pa_cons (pv 0) (pa_cons (pe_glob (v := .ref cF) rfl B.mF rfl) pa_nil)))
      (pa_cons (pe_callB call_isx rfl mi (by kernel_rfl) (pa_cons (pv 0) (pa_cons (pe_glob (v := .ref cV) rfl B.mV rfl) pa_nil)))
      (pa_cons (pe_callB call_isx rfl mi (by kernel_rfl) (pa_cons (pv 0) (pa_cons (pe_glob (v := .ref cT) rfl B.mT rfl) pa_nil)))
      (pa_cons (pe_callB call_isx rfl mi (by kernel_rfl) (pa_cons (pv 0) (pa_cons (pe_glob (v := .ref cP) rfl B.mP rfl) pa_nil))) pa_nil))))))
    (pss_cons (ps_if (pt_cmpR (op_neLL hr.units) (pe_op op_cat (pv 2) (pe_lst (pa_cons (pe_callB call_isx rfl mi (by kernel_rfl) (pa_cons (pv 0) (pa_cons (pe_glob (v := .ref cN) rfl B.mN rfl) pa_nil))) pa_nil)))
      (pe_comp (ns := ["_law_word"]) (ys := ["_law_due_here"]) (sc := scWo) cRe rfl (pi_list (pe_lst (pc_c pe_str (pc_c pe_str (pc_c pe_str (pc_c pe_str (pc_c pe_str pa_nil))))))) (fun C s H fp => pg_name (i := 0) (by show (["_law_word", "_law_due_here"] : List Str).Nodup; decide +kernel) rfl (Or.inl rfl)) (fun C s H fp => pts_nil)
        (fun C s H fp => pe_cmpR op_eq (pe_ix (r := rIxL K) ix_list (pv 1) pe_int (fun _ _ => rfl)) (pv 0) (nomark _))) (nomark _)) (pss_one (ps_ret pe_bl)) pss_nil) ht)), ?_⟩
  refine ⟨_, rfl, e, C, _, _, true, rfl, ix, kd.x, kd.k, rfl, kd.v, true, rfl, iteF ?_⟩
  refine ⟨_, rfl, e, C, _, _, false, rfl, ix, kd.x, kd.k, rfl, kd.t, false, rfl, iteF ?_⟩
  refine ⟨_, rfl, e, C, _, _, b1, rfl, ix, kd.x, kd.k, rfl, kd.f1, _, rfl, e, C, _, _, b2, rfl, ix, kd.x, kd.k, rfl, kd.f2, _, rfl, e, C, _, _, b3, rfl, ix, kd.x, kd.k, rfl, kd.f3, _, rfl, e, C, _, _, b4, rfl, ix, kd.x, kd.k, rfl, kd.f4, (by show 4 ≤ sizeLine; decide), fun l hl => ?_⟩
  have s1 := sameN hl (.lst [.bl b1, .bl b2, .bl b3, .bl b4])
  have gl : upd H l (.lst [.bl b1, .bl b2, .bl b3, .bl b4]) l = some (.lst [.bl b1, .bl b2, .bl b3, .bl b4]) := upd_same
  generalize upd H l (.lst [.bl b1, .bl b2, .bl b3, .bl b4]) = G1 at s1 gl ⊢
  refine ⟨_, rfl, _, rfl, e, C, _, _, b5, rfl, IsX.same ix s1, kd.x, kd.k, rfl, kd.f5, (by show 1 ≤ sizeLine; decide), fun l2 hl2 => ?_⟩
  have s2 := sameN hl2 (.lst [.bl b5])
  refine ⟨l, l2, _, _, rfl, rfl, s2 _ _ gl, upd_same, Nat.le_of_lt (small1000 (by show 5 ≤ 1000; decide)), fun l3 hl3 => ?_⟩
  have s3 := sameN hl3 (.lst [.bl b1, .bl b2, .bl b3, .bl b4, .bl b5])
  have s13 : Same H (upd (upd G1 l2 (.lst [.bl b5])) l3 (.lst [.bl b1, .bl b2, .bl b3, .bl b4, .bl b5])) := Same.trans (Same.trans s1 s2) s3
  have g3 : upd (upd G1 l2 (.lst [.bl b5])) l3 (.lst [.bl b1, .bl b2, .bl b3, .bl b4, .bl b5]) l3 = some (.lst [.bl b1, .bl b2, .bl b3, .bl b4, .bl b5]) := upd_same
  refine ⟨(by show 5 ≤ sizeLine; decide), fun l4 hl4 => ?_⟩
  have s4 := sameN hl4 (.lst (words5.map V.str))
  refine ⟨l4, rfl, ⟨_, SqL.of upd_same⟩, fun D hD => ?_⟩
  obtain ⟨G4, eG4⟩ : ∃ G4, upd (upd (upd G1 l2 (.lst [.bl b5])) l3 (.lst [.bl b1, .bl b2, .bl b3, .bl b4, .bl b5])) l4 (.lst (words5.map V.str)) = G4 := ⟨_, rfl⟩
  have s14 : Same H G4 := by rw [← eG4]; exact Same.trans s13 s4
  have g34 : G4 l3 = some (.lst [.bl b1, .bl b2, .bl b3, .bl b4, .bl b5]) := by rw [← eG4]; exact s4 _ _ g3
  have g44 : G4 l4 = some (.lst (words5.map V.str)) := by rw [← eG4, upd_same]
  have hD4 : G4 D = none := by rw [← eG4]; exact hD
  show Comps _ _ _ _ _ _ _ _ (upd (upd (upd G1 l2 (.lst [.bl b5])) l3 (.lst [.bl b1, .bl b2, .bl b3, .bl b4, .bl b5])) l4 (.lst (words5.map V.str))) D
  rw [eG4]
  refine comp_list (K := K) (a := l4) (xs := words5.map V.str) (fun i ys G => Same G4 G ∧ G D = some (.lst ys) ∧ ys = ((words5.take i).map fun x => decide (V.str tag = V.str x)).map V.bl) ⟨sameN hD4 _, upd_same, rfl⟩ (fun i ys G z => z.2.1) (fun i ys G _ z => SqL.of (z.1 _ _ g44)) ?_ ?_
  · rintro i x' ys G hx' ⟨sG, d2, rfl⟩
    have hi : i < 5 := (List.getElem?_eq_some_iff.mp hx').1
    rw [List.getElem?_map] at hx'
    obtain ⟨wd, ew, rfl⟩ := Option.map_eq_some_iff.mp hx'
    refine ⟨small1000 (by rw [List.length_map, List.length_map, List.length_take]; omega), ⟨[some _], rfl, rfl⟩, ?_⟩
    refine ⟨_, rfl, r, _, _, _, rfl, rfl, SqL.of (sG _ _ (s14 _ _ gr)), at0' _ _, _, rfl, rfl, d2, Same.put sG hD4 _, upd_same, ?_⟩
    rw [List.take_add_one, ew]
    simp
  · rintro ys G ⟨sG, d2, rfl⟩
    have et' : ((words5.take (words5.map V.str).length).map fun x => decide (V.str tag = V.str x)) = [b1, b2, b3, b4, b5] := et
    rw [et'] at d2
    have hb : Holds K G [.bl b1, .bl b2, .bl b3, .bl b4, .bl b5] [.flat (.bl b1), .flat (.bl b2), .flat (.bl b3), .flat (.bl b4), .flat (.bl b5)] := .cons (.flat rfl) (.cons (.flat rfl) (.cons (.flat rfl) (.cons (.flat rfl) (.cons (.flat rfl) .nil))))
    refine ⟨l3, D, _, _, rfl, rfl, SqL.of (sG _ _ g34), SqL.of d2, .inr ⟨_, hb, hb, by simp [depL, Da.dep], _, rfl, iteF ?_⟩⟩
    exact hq _ G (Same.trans s14 sG)
end
end S7


set_option Elab.async false
set_option maxRecDepth 100000
set_option maxHeartbeats 4000000
/-! k72: the law -/
namespace S7
open PySem L2 Fly PyProof.Rows
def spGood (K : PySem.W.Frag) : Sp := fun vs H Q _ => ∃ (x : V) (cl : Int) (n : Net), vs = [x, .int cl] ∧ Hold K H x n.da ∧ NetB n 2 ∧ ∀ H', Same H H' → Q (.bl true) H'
def spLaw (K : PySem.W.Frag) : Sp := fun vs H Q _ => ∃ (a : Addr) (ns : List Int), vs = [.ref a] ∧ SqL K H a (ns.map V.int) ∧ ns.length ≤ 63 ∧ ∀ H', Q (.bl true) H'
abbrev nGo : List Str := ["_law_net_here", "_law_cell_here", "_law_due_here", "_law_k"]
abbrev nLa : List Str := ["_law_script", "_law_net_here", "_law_cell_here", "_law_purse_here", "_law_other"]
theorem due_size {ws : List (Str × Nat)} : ∀ {s t : Say}, s.due ws = some (.test t) → t.size ≤ s.size
  | .no s, t, h => by
    rw [Say.due] at h
    by_cases c : s.isT = true
    · rw [if_pos c] at h; have := due_size h; show t.size ≤ s.size + 1; omega
    · rw [if_neg c] at h; cases h; exact Nat.le_succ _
  | .again s, t, h => by rw [Say.due] at h; have := due_size h; show t.size ≤ s.size + 1; omega
  | .either a b, t, h => by
    rw [Say.due] at h
    show t.size ≤ a.size + b.size + 1
    cases q : a.due ws with
    | none => rw [q] at h; have := due_size (s := b) h; omega
    | some f => rw [q] at h; have z : some f = some (.test t) := h; rw [z] at q; have := due_size q; omega
  | .both a b, t, h => by
    rw [Say.due] at h
    show t.size ≤ a.size + b.size + 1
    cases q : a.due ws with
    | none => rw [q] at h; have := due_size (s := b) h; omega
    | some f => rw [q] at h; have z : some f = some (.test t) := h; rw [z] at q; have := due_size q; omega
  | .is f v, t, h => by
    have h' : fltOf ws f.1 v.1 = some (.test t) := h
    unfold fltOf at h'
    split at h'
    · cases h'
    · split at h' <;> cases h'
  | .put f v, t, h => by
    have h' : fltOf ws f.1 v.1 = some (.test t) := h
    unfold fltOf at h'
    split at h'
    · cases h'
    · split at h' <;> cases h'
  | .nought, t, h => by cases h
  | .every, t, h => by cases h
  | .note, t, h => by cases h
theorem net_sz {n : Net} {f : NF} (sz : ∀ s ∈ n.rules, s.size ≤ 58) (h : n.due = some f) : f.sz ≤ 58 := by
  unfold Net.due at h
  split at h
  · cases h; exact Nat.zero_le _
  · cases q : n.rules.findSome? (Say.rdue n.ws) with
    | none =>
      rw [q] at h
      have h' : n.ties.findSome? (tdue n.ws) = some f := h
      obtain ⟨t, _, e⟩ := List.exists_of_findSome?_eq_some h'
      unfold tdue at e
      obtain ⟨v, _, rfl⟩ := Option.map_eq_some_iff.mp e
      exact Nat.zero_le _
    | some g =>
      rw [q] at h
      have h' : some g = some f := h
      cases h'
      obtain ⟨s, hs, e⟩ := List.exists_of_findSome?_eq_some q
      have s58 := sz s hs
      unfold Say.rdue at e
      cases d : s.due n.ws with
      | some ff =>
        rw [d] at e
        cases e
        cases ff with
        | field _ => exact Nat.zero_le _
        | value _ => exact Nat.zero_le _
        | test t => exact Nat.le_trans (due_size d) s58
      | none =>
        rw [d] at e
        have e' : (if s.nts = 0 then none else some (NF.plain s)) = some f := e
        split at e'
        · cases e'
        · cases e'; exact s58
theorem NetB.mono {n : Net} {j k : Nat} (h : NetB n j) (l : j ≤ k) : NetB n k := ⟨h.sk, Nat.le_trans h.rl (by omega), fun s hs => Nat.le_trans (h.sz s hs) (by omega), h.tl, h.four⟩
section
variable {P : Program} {w : World} {K : PySem.W.Frag} {mg : Str → Option Value} {base : Heap} {cS cF cV cT cP cG cN : Addr}
theorem scGo : FnScope nGo ["_law_net_here", "_law_cell_here"] (defScope sGood) := ⟨rfl, rfl, rfl, by decide +kernel, rfl, by decide +kernel, by decide +kernel⟩
theorem ok_good {f fD fN fR fC : Addr} {fd dD dN dR dC : FuncData} (F : Fun K "_law_good" "_law_good" sGood f fd)
    (GD : FnOk P w K mg base CX0 61 fD dD ["_law_net_here"] (spND K)) (bD : Binds K dD ["_law_net_here"] []) (kD : PySem.W.keepIn K (.ref fD) = true) (mD : mg "_law_due" = some (.ref fD))
    (GN : FnOk P w K mg base (CXx P w) 7 fN dN ["net"] (spMN K cF cV cT cP cN)) (bN : Binds K dN ["net"] []) (kN : PySem.W.keepIn K (.ref fN) = true) (mN : mg "must_net" = some (.ref fN))
    (GR : FnOk P w K mg base CX0 2 fR dR ["_law_e", "_law_due_here"] (spRefused K cF cV cT cP cN)) (bR : Binds K dR ["_law_e", "_law_due_here"] []) (kR : PySem.W.keepIn K (.ref fR) = true) (mR : mg "_law_refused" = some (.ref fR))
    (GC : FnOk P w K mg base CX0 9 fC dC ["_law_way", "_law_net_here"] (spCaught K cF cV cT cP cN)) (bC : Binds K dC ["_law_way", "_law_net_here"] []) (kC : PySem.W.keepIn K (.ref fC) = true) (mC : mg "_law_caught" = some (.ref fC)) (mr : mg "range" = none) :
    FnOk P w K mg base CX0 62 f fd ["_law_net_here", "_law_cell_here"] (spGood K) := by
  refine F.ok scGo (fun vs H Q E h => ?_) (fun cdv A outer s H vs Q E hr h => ?_)
  · obtain ⟨x, cl, n, rfl, _⟩ := h
    rfl
  obtain ⟨x, cl, n, rfl, hx, nb, q⟩ := h
  have sz58 : ∀ s ∈ n.rules, s.size ≤ 58 := fun s hs => Nat.le_trans (nb.sz s hs) (by decide)
  have nk : NetOk n := ⟨fun s hs => Nat.le_trans (sz58 s hs) (by decide), nb.four⟩
  refine ⟨_, pss_cons (ps_set (i := 2) scGo.nd rfl (Or.inl rfl) (pe_call GD hr rfl mD kD bD .nil pass0 (pa_cons (pv 0) pa_nil)))
    (pss_cons (ps_if (pt_cmpR (op_eqLL hr.units) (pv 2) (pe_lst pa_nil) (nomark _)) (pss_one (ps_ret (pe_cmpR op_isN (pe_call GN (hr.mono (by decide)) rfl mN kN bN .nil passN (pa_cons (pv 0) pa_nil)) pe_non (nomark _)))) pss_nil)
    (pss_cons (ps_for PassesOwn.never rfl (pi_range1 rfl mr (pa_cons pe_int pa_nil)) (pg_name (i := 3) scGo.nd rfl (Or.inl rfl))
      (pss_one (ps_if (pt_not (pt_val (pe_call GR (hr.mono (by decide)) rfl mR kR bR .nil pass0 (pa_cons (pe_call GC (hr.mono (by decide)) rfl mC kC bC .nil pass0 (pa_cons (pe_op op_mod (pe_op op_add (pv 1) (pv 3)) pe_int) (pa_cons (pv 0) pa_nil))) (pa_cons (pv 2) pa_nil))))) (pss_one (ps_ret pe_bl)) pss_nil)))
    (pss_one (ps_ret pe_bl)))), ?_⟩
  refine ⟨_, rfl, x, n, rfl, hx, ⟨nb.sk.hi, sz58, nb.four⟩, fun r G1 s1 nd => ?_⟩
  cases du : n.due with
  | none =>
    rw [du] at nd
    have gr : G1 r = some (.lst []) := nd
    refine ⟨_, rfl, (by show 0 ≤ sizeLine; decide), fun l hl => ⟨r, l, [], [], rfl, rfl, SqL.of (sameN hl _ _ _ gr), SqL.of upd_same, .inr ⟨[], .nil, .nil, by decide, _, rfl, iteT ?_⟩⟩⟩
    have s2 := Same.trans s1 (sameN hl (.lst []))
    exact ⟨_, rfl, x, n, rfl, Hold.mono s2 hx, nk, fun _ G3 s3 => ⟨rfl, q G3 (Same.trans s2 s3)⟩, fun ff z => by rw [du] at z; cases z⟩
  | some ff =>
    rw [du] at nd
    obtain ⟨ys, gr, ly⟩ : ∃ ys, G1 r = some (.lst ys) ∧ ys.length = 2 := by
      cases ff with
      | net => exact ⟨_, nd, rfl⟩
      | flt f =>
        cases f with
        | field z => exact ⟨_, nd, rfl⟩
        | value z => exact ⟨_, nd, rfl⟩
        | test t => obtain ⟨y, h1, _⟩ := nd; exact ⟨_, h1, rfl⟩
      | plain t => obtain ⟨y, h1, _⟩ := nd; exact ⟨_, h1, rfl⟩
    have ndS : ∀ G, Same G1 G → NDueAt K G r (some ff) := fun G sG => by
      cases ff with
      | net => exact sG _ _ nd
      | flt f =>
        cases f with
        | field z => exact sG _ _ nd
        | value z => exact sG _ _ nd
        | test t => obtain ⟨y, h1, h2⟩ := nd; exact ⟨y, sG _ _ h1, Hold.mono sG h2⟩
      | plain t => obtain ⟨y, h1, h2⟩ := nd; exact ⟨y, sG _ _ h1, Hold.mono sG h2⟩
    refine ⟨_, rfl, (by show 0 ≤ sizeLine; decide), fun l hl => ⟨r, l, ys, [], rfl, rfl, SqL.of (sameN hl _ _ _ gr), SqL.of upd_same, .inl ⟨by rw [ly]; decide, _, rfl, iteF ?_⟩⟩⟩
    have s2 := sameN hl (.lst [])
    refine ⟨4, rfl, by decide, by decide, for_range (n := 4) (fun i σ G => ∃ v3 : Option V, σ = [some x, some (.int cl), some (.ref r), v3] ∧ Same G1 G) ⟨_, rfl, s2⟩ ?_ ?_⟩
    · rintro i σ G hi ⟨v3, rfl, sG⟩
      have m4 := emod_rng (cl + (0 + (i : Int))) (m := 4) (by decide)
      refine ⟨_, rfl, _, rfl, _, _, rfl, rfl, _, _, rfl, rfl, (by show (0 : Int) < 4; decide), _, rfl, _, x, n, ff, rfl, m4.1, m4.2, Hold.mono (Same.trans s1 sG) hx, nk, nb.sk.lo, nb.sk.hi, du, fun e G3 s3 ca => ?_⟩
      refine ⟨_, rfl, e, r, ff, rfl, ca, ndS G3 (Same.trans sG s3), net_sz sz58 du, fun G4 s4 => ⟨_, rfl, iteF ?_⟩⟩
      exact ⟨_, rfl, Same.trans (Same.trans sG s3) s4⟩
    · rintro σ G ⟨v3, rfl, sG⟩
      exact q G (Same.trans s1 sG)
theorem scLa : FnScope nLa ["_law_script"] (defScope sLaw) := ⟨rfl, rfl, rfl, by decide +kernel, rfl, by decide +kernel, by decide +kernel⟩
theorem ok_law {f fN fP fO fG : Addr} {fd dN dP dO dG : FuncData} (F : Fun K "law" "law" sLaw f fd)
    (GN : FnOk P w K mg base CX0 5 fN dN ["_law_script", "_law_at"] (spNet K)) (bN : Binds K dN ["_law_script", "_law_at"] []) (kN : PySem.W.keepIn K (.ref fN) = true) (mN : mg "_law_net" = some (.ref fN))
    (GP : FnOk P w K mg base CX0 1 fP dP ["_law_cell_here"] spPurse) (bP : Binds K dP ["_law_cell_here"] []) (kP : PySem.W.keepIn K (.ref fP) = true) (mP : mg "_law_purse" = some (.ref fP))
    (GO0 : FnOk P w K mg base CX0 3 fO dO ["_law_net_here", "_law_purse_here"] (spSpoiled K 0)) (GO1 : FnOk P w K mg base CX0 3 fO dO ["_law_net_here", "_law_purse_here"] (spSpoiled K 1)) (bO : Binds K dO ["_law_net_here", "_law_purse_here"] []) (kO : PySem.W.keepIn K (.ref fO) = true) (mO : mg "_law_spoiled" = some (.ref fO))
    (GG : FnOk P w K mg base CX0 62 fG dG ["_law_net_here", "_law_cell_here"] (spGood K)) (bG : Binds K dG ["_law_net_here", "_law_cell_here"] []) (kG : PySem.W.keepIn K (.ref fG) = true) (mG : mg "_law_good" = some (.ref fG)) :
    FnOk P w K mg base CX0 63 f fd ["_law_script"] (spLaw K) := by
  refine F.ok scLa (fun vs H Q E h => ?_) (fun cdv A outer s H vs Q E hr h => ?_)
  · obtain ⟨a, ns, rfl, _⟩ := h
    rfl
  obtain ⟨a, ns, rfl, hS, n63, q⟩ := h
  refine ⟨_, pss_cons (ps_set (i := 1) scLa.nd rfl (Or.inl rfl) (pe_call GN (hr.mono (by decide)) rfl mN kN bN .nil pass0 (pa_cons (pv 0) (pa_cons pe_int pa_nil))))
    (pss_cons (ps_if (pt_not (pt_val (pe_call GG hr rfl mG kG bG .nil pass0 (pa_cons (pv 1) (pa_cons pe_int pa_nil))))) (pss_one (ps_ret pe_bl)) pss_nil)
    (pss_cons (ps_for PassesOwn.never rfl (pi_list (pe_op op_cat (pe_lst (pc_c pe_int (pc_c pe_int (pc_c pe_int (pc_c pe_int (pc_c pe_int pa_nil)))))) (pe_slice sl_list (pv 0) po_none (po_some pe_int)))) (pg_name (i := 2) scLa.nd rfl (Or.inl rfl))
      (pss_cons (ps_set (i := 3) scLa.nd rfl (Or.inl rfl) (pe_call GP (hr.mono (by decide)) rfl mP kP bP .nil pass0 (pa_cons (pv 2) pa_nil)))
      (pss_cons (ps_set (i := 4) scLa.nd rfl (Or.inl rfl) (pe_call GO0 (hr.mono (by decide)) rfl mO kO bO .nil pass0 (pa_cons (pv 1) (pa_cons (pv 3) pa_nil))))
      (pss_one (ps_if (PW.pt (pw_or (pt_not (pt_val (pe_call GG hr rfl mG kG bG .nil pass0 (pa_cons (pv 4) (pa_cons (pv 2) pa_nil))))) (pw_or1 (pt_not (pt_val (pe_call GG hr rfl mG kG bG .nil pass0 (pa_cons (pe_call GO1 (hr.mono (by decide)) rfl mO kO bO .nil pass0 (pa_cons (pv 4) (pa_cons (pv 3) pa_nil))) (pa_cons (pv 2) pa_nil))))))))
        (pss_one (ps_ret pe_bl)) pss_nil)))))
    (pss_one (ps_ret pe_bl)))), ?_⟩
  refine ⟨_, rfl, a, 12, ns, rfl, hS, by decide, n63, fun y n G1 s1 hy dr => ?_⟩
  have nb0 : NetB n 0 := ⟨dr.sk, dr.rl, fun s hs => dr.sz s hs, dr.tl, dr.four⟩
  refine ⟨_, rfl, y, 0, n, rfl, hy, nb0.mono (by decide), fun G2 s2 => ⟨_, rfl, iteF ?_⟩⟩
  have s12 := Same.trans s1 s2
  refine ⟨(by show 5 ≤ sizeLine; decide), fun p hp => ?_⟩
  refine ⟨_, rfl, _, rfl, a, _, rfl, (Same.trans s12 (same_new hp _)).seq hS, fun p2 hp2 => ?_⟩
  have pp : p ≠ p2 := ne_of_none upd_same hp2
  have cl : (cutV (ns.map V.int) none (some 20)).length ≤ 63 := by
    have z := cutV_length (ns.map V.int) none (some 20)
    rw [List.length_map] at z
    omega
  refine ⟨p, p2, _, _, rfl, rfl, (by rw [upd_ne pp, upd_same]), upd_same, small (by show 5 + _ ≤ 1000; omega), fun p3 hp3 => ?_⟩
  generalize hall : ([.int 1, .int 2, .int 3, .int 5, .int 9] : List V) ++ cutV (ns.map V.int) none (some 20) = all
  have allI : ∀ (i : Nat) (x : V), all[i]? = some x → ∃ n, x = V.int n := fun i x e => by
    have m : x ∈ all := List.mem_of_getElem? e
    rw [← hall] at m
    rcases List.mem_append.mp m with z | z
    · simp only [List.mem_cons, List.not_mem_nil, or_false] at z
      rcases z with z | z | z | z | z <;> exact ⟨_, z⟩
    · exact cut_int x z
  generalize hH1 : upd (upd (upd G2 p (.lst [.int 1, .int 2, .int 3, .int 5, .int 9])) p2 (.lst (cutV (ns.map V.int) none (some 20)))) p3 (.lst all) = H1
  have h3 : H1 p3 = some (.lst all) := by rw [← hH1, upd_same]
  have sH1 : Same G2 H1 := by rw [← hH1]; exact Same.trans (same_new hp _) (Same.trans (same_new hp2 _) (same_new hp3 _))
  have hyH : Hold K H1 y n.da := Hold.mono (Same.trans s2 sH1) hy
  refine ⟨p3, rfl, ⟨_, SqL.of h3⟩, for_list (K := K) (a := p3) (xs := all) (fun i σ G => ∃ v2 v3 v4 : Option V, σ = [some (.ref a), some y, v2, v3, v4] ∧ Same H1 G) ⟨_, _, _, rfl, Same.refl _⟩ (fun i σ G _ ⟨_, _, _, _, sG⟩ => SqL.of (sG _ _ h3)) ?_ ?_⟩
  · rintro i x σ G hx ⟨v2, v3, v4, rfl, sG⟩
    obtain ⟨c, rfl⟩ := allI i x hx
    refine ⟨_, rfl, c, rfl, fun pu a0 b0 hpu ha0 hb0 => ?_⟩
    have hpu1 : H1 pu = none := Same.free sG hpu
    have sA : Same H1 (upd G pu (.lst [.int a0, .int b0])) := Same.trans sG (same_new hpu _)
    refine ⟨_, rfl, _, rfl, pu, y, a0, b0, n, rfl, upd_same, ha0, hb0, Hold.mono sA hyH, nb0, fun y2 m2 a2 b2 G4 k4 g4 ha2 hb2 hy2 nb2 => ?_⟩
    have sB : Same H1 G4 := Same.keep sA hpu1 k4
    refine ⟨_, rfl, _, rfl, y2, c, m2, rfl, hy2, nb2.mono (by decide), fun G5 s5 => ⟨_, rfl, iteF ?_⟩⟩
    have sC : Same H1 G5 := Same.trans sB s5
    refine ⟨_, rfl, _, rfl, pu, y2, a2, b2, m2, rfl, s5 _ _ g4, ha2, hb2, Hold.mono s5 hy2, nb2, fun y3 m3 a3 b3 G6 k6 g6 ha3 hb3 hy3 nb3 => ?_⟩
    have sD : Same H1 G6 := Same.keep sC hpu1 k6
    refine ⟨_, rfl, y3, c, m3, rfl, hy3, nb3, fun G7 s7 => ⟨_, rfl, iteF ?_⟩⟩
    exact ⟨_, _, _, rfl, Same.trans sD s7⟩
  · rintro σ G ⟨v2, v3, v4, rfl, sG⟩
    exact q G
end
end S7


set_option Elab.async false
set_option maxRecDepth 100000
set_option maxHeartbeats 4000000
/-! the top -/
namespace S7
open PySem L2 Fly PyProof.Rows
theorem all_mk {l : PySem.W.OpenLaw} {w : World} {K : PySem.W.Frag} {h : Heap} {mg : Str → Option Value} {fa cS cF cV cT cP cG cN iF iV iT iP f1 f2 f3 f4 f5 f6 f7 f8 f9 f10 f11 f12 f13 f14 f15 f16 f17 f18 f19 f20 f21 f22 f23 f24 f25 f26 f27 f28 f29 f30 f31 f32 f33 f34 aH aD aE : Addr} (X : K.In h) (G : h.Ns mainGlobals mg) (hfa : mg "law" = some (.ref fa))
    {odiF aniF odiV aniV odiT aniT odiP aniP od1 an1 od2 an2 od3 an3 od4 an4 od5 an5 od6 an6 od7 an7 od8 an8 od9 an9 od10 an10 od11 an11 od12 an12 od13 an13 od14 an14 od15 an15 od16 an16 od17 an17 od18 an18 od19 an19 od20 an20 od21 an21 od22 an22 od23 an23 od24 an24 od25 an25 od26 an26 od27 an27 od28 an28 od29 an29 od30 an30 od31 an31 od32 an32 od33 an33 od34 an34 odH odD odE : Option Addr} {sliF sliV sliT sliP sl1 sl2 sl3 sl4 sl5 sl6 sl7 sl8 sl9 sl10 sl11 sl12 sl13 sl14 sl15 sl16 sl17 sl18 sl19 sl20 sl21 sl22 sl23 sl24 sl25 sl26 sl27 sl28 sl29 sl30 sl31 sl32 sl33 sl34 slH slD slE : Array (Option Value)} {kViF dciF pmiF cdiF ctiF kViV dciV pmiV cdiV ctiV kViT dciT pmiT cdiT ctiT kViP dciP pmiP cdiP ctiP oc1 kV1 dc1 pm1 cd1 ct1 oc2 kV2 dc2 pm2 cd2 ct2 oc3 kV3 dc3 pm3 cd3 ct3 oc4 kV4 dc4 pm4 cd4 ct4 oc5 kV5 dc5 pm5 cd5 ct5 oc6 kV6 dc6 pm6 cd6 ct6 oc7 kV7 dc7 pm7 cd7 ct7 oc8 kV8 dc8 pm8 cd8 ct8 oc9 kV9 dc9 pm9 cd9 ct9 oc10 kV10 dc10 pm10 cd10 ct10 oc11 kV11 dc11 pm11 cd11 ct11 oc12 kV12 dc12 pm12 cd12 ct12 oc13 kV13 dc13 pm13 cd13 ct13 oc14 kV14 dc14 pm14 cd14 ct14 oc15 kV15 dc15 pm15 cd15 ct15 oc16 kV16 dc16 pm16 cd16 ct16 oc17 kV17 dc17 pm17 cd17 ct17 oc18 kV18 dc18 pm18 cd18 ct18 oc19 kV19 dc19 pm19 cd19 ct19 oc20 kV20 dc20 pm20 cd20 ct20 oc21 kV21 dc21 pm21 cd21 ct21 oc22 kV22 dc22 pm22 cd22 ct22 oc23 kV23 dc23 pm23 cd23 ct23 oc24 kV24 dc24 pm24 cd24 ct24 oc25 kV25 dc25 pm25 cd25 ct25 oc26 kV26 dc26 pm26 cd26 ct26 oc27 kV27 dc27 pm27 cd27 ct27 oc28 kV28 dc28 pm28 cd28 ct28 oc29 kV29 dc29 pm29 cd29 ct29 oc30 kV30 dc30 pm30 cd30 ct30 oc31 kV31 dc31 pm31 cd31 ct31 oc32 kV32 dc32 pm32 cd32 ct32 oc33 kV33 dc33 pm33 cd33 ct33 oc34 kV34 dc34 pm34 cd34 ct34 : Value} {nH nD nE : Nat} {tk1 tk2 tk3 tk4 tk5 tk6 tk7 tk8 tk9 tk10 tk11 tk12 : Tok}
    {nmF qF : Str} {NF : Addr} {bsF subF : List Value} {snF : List Str} {abF : Bool} {colF : Option Bool} {ddF : Option Addr} {k0F k1F k2F k3F k5F : Option Value}
    {nmV qV : Str} {NV : Addr} {bsV subV : List Value} {snV : List Str} {abV : Bool} {colV : Option Bool} {ddV : Option Addr} {k0V k1V k2V k3V k5V : Option Value}
    {nmT qT : Str} {NT : Addr} {bsT subT : List Value} {snT : List Str} {abT : Bool} {colT : Option Bool} {ddT : Option Addr} {k0T k1T k2T k3T k5T : Option Value}
    {nmP qP : Str} {NP : Addr} {bsP subP : List Value} {snP : List Str} {abP : Bool} {colP : Option Bool} {ddP : Option Addr} {k0P k1P k2P k3P k5P : Option Value}
    {nmN qN : Str} {NN : Addr} {bsN subN : List Value} {snN : List Str} {abN : Bool} {colN : Option Bool} {ddN : Option Addr} {k0N k1N k2N k3N k5N : Option Value}
    (mS : PySem.W.nsIn K mainGlobals "SwitchError" = some (some (.ref cS)))
    (mF : PySem.W.nsIn K mainGlobals "NoField" = some (some (.ref cF)))
    (lcF : K.lookup cF = some (excClassObj nmF qF cF NF bsF (.ref cS :: bmV) true snF subF abF colF ddF k0F k1F k2F k3F k5F "ValueError.__new__"))
    (saF : PySem.W.findIn K (.ref cF) "__setattr__" = some (some (.builtin "object.__setattr__")))
    (gaF : PySem.W.findIn K (.ref cF) "__getattribute__" = some (some (.builtin "BaseException.__getattribute__")))
    (gtF : PySem.W.findIn K (.ref cF) "__getattr__" = some none)
    (kpF : PySem.W.keepIn K (.ref cF) = true)
    (mV : PySem.W.nsIn K mainGlobals "NoValue" = some (some (.ref cV)))
    (lcV : K.lookup cV = some (excClassObj nmV qV cV NV bsV (.ref cS :: bmV) true snV subV abV colV ddV k0V k1V k2V k3V k5V "ValueError.__new__"))
    (saV : PySem.W.findIn K (.ref cV) "__setattr__" = some (some (.builtin "object.__setattr__")))
    (gaV : PySem.W.findIn K (.ref cV) "__getattribute__" = some (some (.builtin "BaseException.__getattribute__")))
    (gtV : PySem.W.findIn K (.ref cV) "__getattr__" = some none)
    (kpV : PySem.W.keepIn K (.ref cV) = true)
    (mT : PySem.W.nsIn K mainGlobals "NoTest" = some (some (.ref cT)))
    (lcT : K.lookup cT = some (excClassObj nmT qT cT NT bsT (.ref cS :: bmV) true snT subT abT colT ddT k0T k1T k2T k3T k5T "ValueError.__new__"))
    (saT : PySem.W.findIn K (.ref cT) "__setattr__" = some (some (.builtin "object.__setattr__")))
    (gaT : PySem.W.findIn K (.ref cT) "__getattribute__" = some (some (.builtin "BaseException.__getattribute__")))
    (gtT : PySem.W.findIn K (.ref cT) "__getattr__" = some none)
    (kpT : PySem.W.keepIn K (.ref cT) = true)
    (mP : PySem.W.nsIn K mainGlobals "NoPlain" = some (some (.ref cP)))
    (lcP : K.lookup cP = some (excClassObj nmP qP cP NP bsP (.ref cS :: bmV) true snP subP abP colP ddP k0P k1P k2P k3P k5P "ValueError.__new__"))
    (saP : PySem.W.findIn K (.ref cP) "__setattr__" = some (some (.builtin "object.__setattr__")))
    (gaP : PySem.W.findIn K (.ref cP) "__getattribute__" = some (some (.builtin "BaseException.__getattribute__")))
    (gtP : PySem.W.findIn K (.ref cP) "__getattr__" = some none)
    (kpP : PySem.W.keepIn K (.ref cP) = true)
    (mG : PySem.W.nsIn K mainGlobals "TooGreat" = some (some (.ref cG)))
    (mN : PySem.W.nsIn K mainGlobals "NoNet" = some (some (.ref cN)))
    (lcN : K.lookup cN = some (excClassObj nmN qN cN NN bsN (.ref cS :: bmV) true snN subN abN colN ddN k0N k1N k2N k3N k5N "ValueError.__new__"))
    (saN : PySem.W.findIn K (.ref cN) "__setattr__" = some (some (.builtin "object.__setattr__")))
    (gaN : PySem.W.findIn K (.ref cN) "__getattribute__" = some (some (.builtin "BaseException.__getattribute__")))
    (gtN : PySem.W.findIn K (.ref cN) "__getattr__" = some none)
    (kpN : PySem.W.keepIn K (.ref cN) = true)
    (clF : PySem.W.findIn K (.ref cF) "__class__" = some (some (.builtin "object.__class__")))
    (clV : PySem.W.findIn K (.ref cV) "__class__" = some (some (.builtin "object.__class__")))
    (clT : PySem.W.findIn K (.ref cT) "__class__" = some (some (.builtin "object.__class__")))
    (clP : PySem.W.findIn K (.ref cP) "__class__" = some (some (.builtin "object.__class__")))
    (clN : PySem.W.findIn K (.ref cN) "__class__" = some (some (.builtin "object.__class__")))
    (jN : PySem.W.findIn K (.ref cN) "__init__" = some (some (.builtin "ValueError.__init__")))
    (wga : PySem.W.specialIn K (.ref cS) "__getattribute__" = some (some (.builtin "type.__getattribute__")))
    (wrd : PySem.W.readsIn K cS (.type "type") = true)
    (wfc : PySem.W.findCls K (.ref cS) (.type "type") "__init__" = some (.val (.builtin "ValueError.__init__")))
    (nFfield : PySem.W.findIn K (.ref cF) "field" = some none)
    (nVvalue : PySem.W.findIn K (.ref cV) "value" = some none)
    (nTsaying : PySem.W.findIn K (.ref cT) "saying" = some none)
    (nPsaying : PySem.W.findIn K (.ref cP) "saying" = some none)
    (vF : PySem.W.kitOne K (.ref cF) (.type "ValueError") = some true)
    (vV : PySem.W.kitOne K (.ref cV) (.type "ValueError") = some true)
    (vT : PySem.W.kitOne K (.ref cT) (.type "ValueError") = some true)
    (vP : PySem.W.kitOne K (.ref cP) (.type "ValueError") = some true)
    (vN : PySem.W.kitOne K (.ref cN) (.type "ValueError") = some true)
    (ttF : PySem.W.kitOne K (.ref cF) (.ref cG) = some false)
    (ttV : PySem.W.kitOne K (.ref cV) (.ref cG) = some false)
    (ttT : PySem.W.kitOne K (.ref cT) (.ref cG) = some false)
    (ttP : PySem.W.kitOne K (.ref cP) (.ref cG) = some false)
    (ttN : PySem.W.kitOne K (.ref cN) (.ref cG) = some false)
    (eFF : PySem.W.kitOne K (.ref cF) (.ref cF) = some true)
    (eFV : PySem.W.kitOne K (.ref cF) (.ref cV) = some false)
    (eFT : PySem.W.kitOne K (.ref cF) (.ref cT) = some false)
    (eFP : PySem.W.kitOne K (.ref cF) (.ref cP) = some false)
    (eFN : PySem.W.kitOne K (.ref cF) (.ref cN) = some false)
    (eVF : PySem.W.kitOne K (.ref cV) (.ref cF) = some false)
    (eVV : PySem.W.kitOne K (.ref cV) (.ref cV) = some true)
    (eVT : PySem.W.kitOne K (.ref cV) (.ref cT) = some false)
    (eVP : PySem.W.kitOne K (.ref cV) (.ref cP) = some false)
    (eVN : PySem.W.kitOne K (.ref cV) (.ref cN) = some false)
    (eTF : PySem.W.kitOne K (.ref cT) (.ref cF) = some false)
    (eTV : PySem.W.kitOne K (.ref cT) (.ref cV) = some false)
    (eTT : PySem.W.kitOne K (.ref cT) (.ref cT) = some true)
    (eTP : PySem.W.kitOne K (.ref cT) (.ref cP) = some false)
    (eTN : PySem.W.kitOne K (.ref cT) (.ref cN) = some false)
    (ePF : PySem.W.kitOne K (.ref cP) (.ref cF) = some false)
    (ePV : PySem.W.kitOne K (.ref cP) (.ref cV) = some false)
    (ePT : PySem.W.kitOne K (.ref cP) (.ref cT) = some false)
    (ePP : PySem.W.kitOne K (.ref cP) (.ref cP) = some true)
    (ePN : PySem.W.kitOne K (.ref cP) (.ref cN) = some false)
    (eNF : PySem.W.kitOne K (.ref cN) (.ref cF) = some false)
    (eNV : PySem.W.kitOne K (.ref cN) (.ref cV) = some false)
    (eNT : PySem.W.kitOne K (.ref cN) (.ref cT) = some false)
    (eNP : PySem.W.kitOne K (.ref cN) (.ref cP) = some false)
    (eNN : PySem.W.kitOne K (.ref cN) (.ref cN) = some true)
    (xF : PySem.W.exmOne K (.ref cF) (.ref cS) = some true)
    (xV : PySem.W.exmOne K (.ref cV) (.ref cS) = some true)
    (xT : PySem.W.exmOne K (.ref cT) (.ref cS) = some true)
    (xP : PySem.W.exmOne K (.ref cP) (.ref cS) = some true)
    (xN : PySem.W.exmOne K (.ref cN) (.ref cS) = some true)
    (aiF : PySem.W.findIn K (.ref cF) "__init__" = some (some (.ref iF)))
    (liF : K.lookup iF = some ⟨(.type "function"), odiF, .func (PySem.W.fnOf "__init__" "NoField.__init__" (defArgs sNF) (defBody sNF) (defScope sNF) .none kViF dciF pmiF aniF cdiF ctiF), sliF⟩)
    (ciF : PySem.W.codeIn K cdiF "NoField.__init__" = true)
    (kiF : PySem.W.keepIn K (.ref iF) = true)
    (aiV : PySem.W.findIn K (.ref cV) "__init__" = some (some (.ref iV)))
    (liV : K.lookup iV = some ⟨(.type "function"), odiV, .func (PySem.W.fnOf "__init__" "NoValue.__init__" (defArgs sNV) (defBody sNV) (defScope sNV) .none kViV dciV pmiV aniV cdiV ctiV), sliV⟩)
    (ciV : PySem.W.codeIn K cdiV "NoValue.__init__" = true)
    (kiV : PySem.W.keepIn K (.ref iV) = true)
    (aiT : PySem.W.findIn K (.ref cT) "__init__" = some (some (.ref iT)))
    (liT : K.lookup iT = some ⟨(.type "function"), odiT, .func (PySem.W.fnOf "__init__" "NoTest.__init__" (defArgs sNT) (defBody sNT) (defScope sNT) .none kViT dciT pmiT aniT cdiT ctiT), sliT⟩)
    (ciT : PySem.W.codeIn K cdiT "NoTest.__init__" = true)
    (kiT : PySem.W.keepIn K (.ref iT) = true)
    (aiP : PySem.W.findIn K (.ref cP) "__init__" = some (some (.ref iP)))
    (liP : K.lookup iP = some ⟨(.type "function"), odiP, .func (PySem.W.fnOf "__init__" "NoPlain.__init__" (defArgs sNP) (defBody sNP) (defScope sNP) .none kViP dciP pmiP aniP cdiP ctiP), sliP⟩)
    (ciP : PySem.W.codeIn K cdiP "NoPlain.__init__" = true)
    (kiP : PySem.W.keepIn K (.ref iP) = true)
    (a1 : PySem.W.nsIn K mainGlobals "place_of" = some (some (.ref f1)))
    (l1 : K.lookup f1 = some ⟨oc1, od1, .func (PySem.W.fnOf "place_of" "place_of" (defArgs sPlace) (defBody sPlace) (defScope sPlace) .none kV1 dc1 pm1 an1 cd1 ct1), sl1⟩)
    (c1 : PySem.W.codeIn K cd1 "place_of" = true)
    (k1 : PySem.W.keepIn K (.ref f1) = true)
    (a2 : PySem.W.nsIn K mainGlobals "must_value" = some (some (.ref f2)))
    (l2 : K.lookup f2 = some ⟨oc2, od2, .func (PySem.W.fnOf "must_value" "must_value" (defArgs sMust) (defBody sMust) (defScope sMust) .none kV2 dc2 pm2 an2 cd2 ct2), sl2⟩)
    (c2 : PySem.W.codeIn K cd2 "must_value" = true)
    (k2 : PySem.W.keepIn K (.ref f2) = true)
    (a3 : PySem.W.nsIn K mainGlobals "parts_of" = some (some (.ref f3)))
    (l3 : K.lookup f3 = some ⟨oc3, od3, .func (PySem.W.fnOf "parts_of" "parts_of" (defArgs sParts) (defBody sParts) (defScope sParts) .none kV3 dc3 pm3 an3 cd3 ct3), sl3⟩)
    (c3 : PySem.W.codeIn K cd3 "parts_of" = true)
    (k3 : PySem.W.keepIn K (.ref f3) = true)
    (a4 : PySem.W.nsIn K mainGlobals "held_in" = some (some (.ref f4)))
    (l4 : K.lookup f4 = some ⟨oc4, od4, .func (PySem.W.fnOf "held_in" "held_in" (defArgs sHeld) (defBody sHeld) (defScope sHeld) .none kV4 dc4 pm4 an4 cd4 ct4), sl4⟩)
    (c4 : PySem.W.codeIn K cd4 "held_in" = true)
    (k4 : PySem.W.keepIn K (.ref f4) = true)
    (a5 : PySem.W.nsIn K mainGlobals "must_saying" = some (some (.ref f5)))
    (l5 : K.lookup f5 = some ⟨oc5, od5, .func (PySem.W.fnOf "must_saying" "must_saying" (defArgs sMSay) (defBody sMSay) (defScope sMSay) .none kV5 dc5 pm5 an5 cd5 ct5), sl5⟩)
    (c5 : PySem.W.codeIn K cd5 "must_saying" = true)
    (k5 : PySem.W.keepIn K (.ref f5) = true)
    (a6 : PySem.W.nsIn K mainGlobals "must_part" = some (some (.ref f6)))
    (l6 : K.lookup f6 = some ⟨oc6, od6, .func (PySem.W.fnOf "must_part" "must_part" (defArgs sMPart) (defBody sMPart) (defScope sMPart) .none kV6 dc6 pm6 an6 cd6 ct6), sl6⟩)
    (c6 : PySem.W.codeIn K cd6 "must_part" = true)
    (k6 : PySem.W.keepIn K (.ref f6) = true)
    (a7 : PySem.W.nsIn K mainGlobals "is_test" = some (some (.ref f7)))
    (l7 : K.lookup f7 = some ⟨oc7, od7, .func (PySem.W.fnOf "is_test" "is_test" (defArgs sIsT) (defBody sIsT) (defScope sIsT) .none kV7 dc7 pm7 an7 cd7 ct7), sl7⟩)
    (c7 : PySem.W.codeIn K cd7 "is_test" = true)
    (k7 : PySem.W.keepIn K (.ref f7) = true)
    (a8 : PySem.W.nsIn K mainGlobals "notes_in" = some (some (.ref f8)))
    (l8 : K.lookup f8 = some ⟨oc8, od8, .func (PySem.W.fnOf "notes_in" "notes_in" (defArgs sNts) (defBody sNts) (defScope sNts) .none kV8 dc8 pm8 an8 cd8 ct8), sl8⟩)
    (c8 : PySem.W.codeIn K cd8 "notes_in" = true)
    (k8 : PySem.W.keepIn K (.ref f8) = true)
    (a9 : PySem.W.nsIn K mainGlobals "must_test" = some (some (.ref f9)))
    (l9 : K.lookup f9 = some ⟨oc9, od9, .func (PySem.W.fnOf "must_test" "must_test" (defArgs sMTest) (defBody sMTest) (defScope sMTest) .none kV9 dc9 pm9 an9 cd9 ct9), sl9⟩)
    (c9 : PySem.W.codeIn K cd9 "must_test" = true)
    (k9 : PySem.W.keepIn K (.ref f9) = true)
    (a10 : PySem.W.nsIn K mainGlobals "must_plain" = some (some (.ref f10)))
    (l10 : K.lookup f10 = some ⟨oc10, od10, .func (PySem.W.fnOf "must_plain" "must_plain" (defArgs sMPlain) (defBody sMPlain) (defScope sMPlain) .none kV10 dc10 pm10 an10 cd10 ct10), sl10⟩)
    (c10 : PySem.W.codeIn K cd10 "must_plain" = true)
    (k10 : PySem.W.keepIn K (.ref f10) = true)
    (a11 : PySem.W.nsIn K mainGlobals "must_net" = some (some (.ref f11)))
    (l11 : K.lookup f11 = some ⟨oc11, od11, .func (PySem.W.fnOf "must_net" "must_net" (defArgs sMNet) (defBody sMNet) (defScope sMNet) .none kV11 dc11 pm11 an11 cd11 ct11), sl11⟩)
    (c11 : PySem.W.codeIn K cd11 "must_net" = true)
    (k11 : PySem.W.keepIn K (.ref f11) = true)
    (a12 : PySem.W.nsIn K mainGlobals "must_tie" = some (some (.ref f12)))
    (l12 : K.lookup f12 = some ⟨oc12, od12, .func (PySem.W.fnOf "must_tie" "must_tie" (defArgs sMTie) (defBody sMTie) (defScope sMTie) .none kV12 dc12 pm12 an12 cd12 ct12), sl12⟩)
    (c12 : PySem.W.codeIn K cd12 "must_tie" = true)
    (k12 : PySem.W.keepIn K (.ref f12) = true)
    (a13 : PySem.W.nsIn K mainGlobals "hops" = some (some (.ref f13)))
    (l13 : K.lookup f13 = some ⟨oc13, od13, .func (PySem.W.fnOf "hops" "hops" (defArgs sHops) (defBody sHops) (defScope sHops) .none kV13 dc13 pm13 an13 cd13 ct13), sl13⟩)
    (c13 : PySem.W.codeIn K cd13 "hops" = true)
    (k13 : PySem.W.keepIn K (.ref f13) = true)
    (a14 : PySem.W.nsIn K mainGlobals "tables_of" = some (some (.ref f14)))
    (l14 : K.lookup f14 = some ⟨oc14, od14, .func (PySem.W.fnOf "tables_of" "tables_of" (defArgs sTabs) (defBody sTabs) (defScope sTabs) .none kV14 dc14 pm14 an14 cd14 ct14), sl14⟩)
    (c14 : PySem.W.codeIn K cd14 "tables_of" = true)
    (k14 : PySem.W.keepIn K (.ref f14) = true)
    (a15 : PySem.W.nsIn K mainGlobals "saying_of" = some (some (.ref f15)))
    (l15 : K.lookup f15 = some ⟨oc15, od15, .func (PySem.W.fnOf "saying_of" "saying_of" (defArgs sSayOf) (defBody sSayOf) (defScope sSayOf) .none kV15 dc15 pm15 an15 cd15 ct15), sl15⟩)
    (c15 : PySem.W.codeIn K cd15 "saying_of" = true)
    (k15 : PySem.W.keepIn K (.ref f15) = true)
    (a16 : PySem.W.nsIn K mainGlobals "_law_cell" = some (some (.ref f16)))
    (l16 : K.lookup f16 = some ⟨oc16, od16, .func (PySem.W.fnOf "_law_cell" "_law_cell" (defArgs sCell) (defBody sCell) (defScope sCell) .none kV16 dc16 pm16 an16 cd16 ct16), sl16⟩)
    (c16 : PySem.W.codeIn K cd16 "_law_cell" = true)
    (k16 : PySem.W.keepIn K (.ref f16) = true)
    (a17 : PySem.W.nsIn K mainGlobals "_law_purse" = some (some (.ref f17)))
    (l17 : K.lookup f17 = some ⟨oc17, od17, .func (PySem.W.fnOf "_law_purse" "_law_purse" (defArgs sPurse) (defBody sPurse) (defScope sPurse) .none kV17 dc17 pm17 an17 cd17 ct17), sl17⟩)
    (c17 : PySem.W.codeIn K cd17 "_law_purse" = true)
    (k17 : PySem.W.keepIn K (.ref f17) = true)
    (a18 : PySem.W.nsIn K mainGlobals "_law_take" = some (some (.ref f18)))
    (l18 : K.lookup f18 = some ⟨oc18, od18, .func (PySem.W.fnOf "_law_take" "_law_take" (defArgs sTake) (defBody sTake) (defScope sTake) .none kV18 dc18 pm18 an18 cd18 ct18), sl18⟩)
    (c18 : PySem.W.codeIn K cd18 "_law_take" = true)
    (k18 : PySem.W.keepIn K (.ref f18) = true)
    (a19 : PySem.W.nsIn K mainGlobals "_law_speech" = some (some (.ref f19)))
    (l19 : K.lookup f19 = some ⟨oc19, od19, .func (PySem.W.fnOf "_law_speech" "_law_speech" (defArgs sSpeech) (defBody sSpeech) (defScope sSpeech) .none kV19 dc19 pm19 an19 cd19 ct19), sl19⟩)
    (c19 : PySem.W.codeIn K cd19 "_law_speech" = true)
    (k19 : PySem.W.keepIn K (.ref f19) = true)
    (a20 : PySem.W.nsIn K mainGlobals "_law_lone" = some (some (.ref f20)))
    (l20 : K.lookup f20 = some ⟨oc20, od20, .func (PySem.W.fnOf "_law_lone" "_law_lone" (defArgs sLone) (defBody sLone) (defScope sLone) .none kV20 dc20 pm20 an20 cd20 ct20), sl20⟩)
    (c20 : PySem.W.codeIn K cd20 "_law_lone" = true)
    (k20 : PySem.W.keepIn K (.ref f20) = true)
    (a21 : PySem.W.nsIn K mainGlobals "_law_grown" = some (some (.ref f21)))
    (l21 : K.lookup f21 = some ⟨oc21, od21, .func (PySem.W.fnOf "_law_grown" "_law_grown" (defArgs sGrown) (defBody sGrown) (defScope sGrown) .none kV21 dc21 pm21 an21 cd21 ct21), sl21⟩)
    (c21 : PySem.W.codeIn K cd21 "_law_grown" = true)
    (k21 : PySem.W.keepIn K (.ref f21) = true)
    (a22 : PySem.W.nsIn K mainGlobals "_law_joined" = some (some (.ref f22)))
    (l22 : K.lookup f22 = some ⟨oc22, od22, .func (PySem.W.fnOf "_law_joined" "_law_joined" (defArgs sJoined) (defBody sJoined) (defScope sJoined) .none kV22 dc22 pm22 an22 cd22 ct22), sl22⟩)
    (c22 : PySem.W.codeIn K cd22 "_law_joined" = true)
    (k22 : PySem.W.keepIn K (.ref f22) = true)
    (a23 : PySem.W.nsIn K mainGlobals "_law_saying" = some (some (.ref f23)))
    (l23 : K.lookup f23 = some ⟨oc23, od23, .func (PySem.W.fnOf "_law_saying" "_law_saying" (defArgs sSaying) (defBody sSaying) (defScope sSaying) .none kV23 dc23 pm23 an23 cd23 ct23), sl23⟩)
    (c23 : PySem.W.codeIn K cd23 "_law_saying" = true)
    (k23 : PySem.W.keepIn K (.ref f23) = true)
    (a24 : PySem.W.nsIn K mainGlobals "_law_net" = some (some (.ref f24)))
    (l24 : K.lookup f24 = some ⟨oc24, od24, .func (PySem.W.fnOf "_law_net" "_law_net" (defArgs sNet) (defBody sNet) (defScope sNet) .none kV24 dc24 pm24 an24 cd24 ct24), sl24⟩)
    (c24 : PySem.W.codeIn K cd24 "_law_net" = true)
    (k24 : PySem.W.keepIn K (.ref f24) = true)
    (a25 : PySem.W.nsIn K mainGlobals "_law_is_test" = some (some (.ref f25)))
    (l25 : K.lookup f25 = some ⟨oc25, od25, .func (PySem.W.fnOf "_law_is_test" "_law_is_test" (defArgs sLIsT) (defBody sLIsT) (defScope sLIsT) .none kV25 dc25 pm25 an25 cd25 ct25), sl25⟩)
    (c25 : PySem.W.codeIn K cd25 "_law_is_test" = true)
    (k25 : PySem.W.keepIn K (.ref f25) = true)
    (a26 : PySem.W.nsIn K mainGlobals "_law_has_note" = some (some (.ref f26)))
    (l26 : K.lookup f26 = some ⟨oc26, od26, .func (PySem.W.fnOf "_law_has_note" "_law_has_note" (defArgs sLNote) (defBody sLNote) (defScope sLNote) .none kV26 dc26 pm26 an26 cd26 ct26), sl26⟩)
    (c26 : PySem.W.codeIn K cd26 "_law_has_note" = true)
    (k26 : PySem.W.keepIn K (.ref f26) = true)
    (a27 : PySem.W.nsIn K mainGlobals "_law_bad" = some (some (.ref f27)))
    (l27 : K.lookup f27 = some ⟨oc27, od27, .func (PySem.W.fnOf "_law_bad" "_law_bad" (defArgs sDue) (defBody sDue) (defScope sDue) .none kV27 dc27 pm27 an27 cd27 ct27), sl27⟩)
    (c27 : PySem.W.codeIn K cd27 "_law_bad" = true)
    (k27 : PySem.W.keepIn K (.ref f27) = true)
    (a28 : PySem.W.nsIn K mainGlobals "_law_due" = some (some (.ref f28)))
    (l28 : K.lookup f28 = some ⟨oc28, od28, .func (PySem.W.fnOf "_law_due" "_law_due" (defArgs sNDue) (defBody sNDue) (defScope sNDue) .none kV28 dc28 pm28 an28 cd28 ct28), sl28⟩)
    (c28 : PySem.W.codeIn K cd28 "_law_due" = true)
    (k28 : PySem.W.keepIn K (.ref f28) = true)
    (a29 : PySem.W.nsIn K mainGlobals "_law_strange" = some (some (.ref f29)))
    (l29 : K.lookup f29 = some ⟨oc29, od29, .func (PySem.W.fnOf "_law_strange" "_law_strange" (defArgs sStrange) (defBody sStrange) (defScope sStrange) .none kV29 dc29 pm29 an29 cd29 ct29), sl29⟩)
    (c29 : PySem.W.codeIn K cd29 "_law_strange" = true)
    (k29 : PySem.W.keepIn K (.ref f29) = true)
    (a30 : PySem.W.nsIn K mainGlobals "_law_spoiled" = some (some (.ref f30)))
    (l30 : K.lookup f30 = some ⟨oc30, od30, .func (PySem.W.fnOf "_law_spoiled" "_law_spoiled" (defArgs sSpoiled) (defBody sSpoiled) (defScope sSpoiled) .none kV30 dc30 pm30 an30 cd30 ct30), sl30⟩)
    (c30 : PySem.W.codeIn K cd30 "_law_spoiled" = true)
    (k30 : PySem.W.keepIn K (.ref f30) = true)
    (a31 : PySem.W.nsIn K mainGlobals "_law_caught" = some (some (.ref f31)))
    (l31 : K.lookup f31 = some ⟨oc31, od31, .func (PySem.W.fnOf "_law_caught" "_law_caught" (defArgs sCaught) (defBody sCaught) (defScope sCaught) .none kV31 dc31 pm31 an31 cd31 ct31), sl31⟩)
    (c31 : PySem.W.codeIn K cd31 "_law_caught" = true)
    (k31 : PySem.W.keepIn K (.ref f31) = true)
    (a32 : PySem.W.nsIn K mainGlobals "_law_refused" = some (some (.ref f32)))
    (l32 : K.lookup f32 = some ⟨oc32, od32, .func (PySem.W.fnOf "_law_refused" "_law_refused" (defArgs sRefused) (defBody sRefused) (defScope sRefused) .none kV32 dc32 pm32 an32 cd32 ct32), sl32⟩)
    (c32 : PySem.W.codeIn K cd32 "_law_refused" = true)
    (k32 : PySem.W.keepIn K (.ref f32) = true)
    (a33 : PySem.W.nsIn K mainGlobals "_law_good" = some (some (.ref f33)))
    (l33 : K.lookup f33 = some ⟨oc33, od33, .func (PySem.W.fnOf "_law_good" "_law_good" (defArgs sGood) (defBody sGood) (defScope sGood) .none kV33 dc33 pm33 an33 cd33 ct33), sl33⟩)
    (c33 : PySem.W.codeIn K cd33 "_law_good" = true)
    (k33 : PySem.W.keepIn K (.ref f33) = true)
    (a34 : PySem.W.nsIn K mainGlobals "law" = some (some (.ref f34)))
    (l34 : K.lookup f34 = some ⟨oc34, od34, .func (PySem.W.fnOf "law" "law" (defArgs sLaw) (defBody sLaw) (defScope sLaw) .none kV34 dc34 pm34 an34 cd34 ct34), sl34⟩)
    (c34 : PySem.W.codeIn K cd34 "law" = true)
    (k34 : PySem.W.keepIn K (.ref f34) = true)
    (aaH : PySem.W.nsIn K mainGlobals "HOLDING_SORTS" = some (some (.ref aH)))
    (llH : K.lookup aH = some ⟨.type "tuple", odH, .seq #[.str "not" tk1, .str "either" tk2, .str "then" tk3, .str "again" tk4] nH, slH⟩)
    (aaD : PySem.W.nsIn K mainGlobals "FIELD_SORTS" = some (some (.ref aD)))
    (llD : K.lookup aD = some ⟨.type "tuple", odD, .seq #[.str "is" tk5, .str "put" tk6] nD, slD⟩)
    (aaE : PySem.W.nsIn K mainGlobals "TEST_SORTS" = some (some (.ref aE)))
    (llE : K.lookup aE = some ⟨.type "tuple", odE, .seq #[.str "none" tk7, .str "all" tk8, .str "is" tk9, .str "not" tk10, .str "either" tk11, .str "then" tk12] nE, slE⟩)
    (zrange : PySem.W.nsIn K mainGlobals "range" = some none)
    (zabs : PySem.W.nsIn K mainGlobals "abs" = some none)
    (zint : PySem.W.nsIn K mainGlobals "int" = some none)
    (zmax : PySem.W.nsIn K mainGlobals "max" = some none)
    (zmin : PySem.W.nsIn K mainGlobals "min" = some none)
    (ztuple : PySem.W.nsIn K mainGlobals "tuple" = some none)
    (zlen : PySem.W.nsIn K mainGlobals "len" = some none)
    (zisinstance : PySem.W.nsIn K mainGlobals "isinstance" = some none)
    (zenumerate : PySem.W.nsIn K mainGlobals "enumerate" = some none)
    (zValueError : PySem.W.nsIn K mainGlobals "ValueError" = some none)
    (zsum : PySem.W.nsIn K mainGlobals "sum" = some none)
    (zall : PySem.W.nsIn K mainGlobals "all" = some none) :
    ∃ fd : FuncData, (∀ (s : Shared) (v : Value), BindsTo s fd ⟨[v], []⟩ [("_law_script", v)]) ∧ ∀ base : Heap, K.In base → base.Ns mainGlobals mg → FnOk l.prog w K mg base CX0 63 fa fd ["_law_script"] (spLaw K) := by
  have e := hfa.symm.trans (PySem.W.mg_of X G a34)
  cases e
  have FiF := fun_mk (st := sNF) liF ciF kiF
  have biF := FiF.binds (ps := ["self", "field"]) fun _ _ _ _ _ _ us hl => match us, hl with | [_, _], _ => rfl
  have FiV := fun_mk (st := sNV) liV ciV kiV
  have biV := FiV.binds (ps := ["self", "value"]) fun _ _ _ _ _ _ us hl => match us, hl with | [_, _], _ => rfl
  have FiT := fun_mk (st := sNT) liT ciT kiT
  have biT := FiT.binds (ps := ["self", "saying"]) fun _ _ _ _ _ _ us hl => match us, hl with | [_, _], _ => rfl
  have FiP := fun_mk (st := sNP) liP ciP kiP
  have biP := FiP.binds (ps := ["self", "saying"]) fun _ _ _ _ _ _ us hl => match us, hl with | [_, _], _ => rfl
  have F1 := fun_mk (st := sPlace) l1 c1 k1
  have b1 := F1.binds (ps := ["speech", "field", "value"]) fun _ _ _ _ _ _ us hl => match us, hl with | [_, _, _], _ => rfl
  have F2 := fun_mk (st := sMust) l2 c2 k2
  have b2 := F2.binds (ps := ["count", "value"]) fun _ _ _ _ _ _ us hl => match us, hl with | [_, _], _ => rfl
  have F3 := fun_mk (st := sParts) l3 c3 k3
  have b3 := F3.binds (ps := ["saying"]) fun _ _ _ _ _ _ us hl => match us, hl with | [_], _ => rfl
  have F4 := fun_mk (st := sHeld) l4 c4 k4
  have b4 := F4.binds (ps := ["saying"]) fun _ _ _ _ _ _ us hl => match us, hl with | [_], _ => rfl
  have F5 := fun_mk (st := sMSay) l5 c5 k5
  have b5 := F5.binds (ps := ["speech", "saying"]) fun _ _ _ _ _ _ us hl => match us, hl with | [_, _], _ => rfl
  have F6 := fun_mk (st := sMPart) l6 c6 k6
  have b6 := F6.binds (ps := ["speech", "part"]) fun _ _ _ _ _ _ us hl => match us, hl with | [_, _], _ => rfl
  have F7 := fun_mk (st := sIsT) l7 c7 k7
  have b7 := F7.binds (ps := ["saying"]) fun _ _ _ _ _ _ us hl => match us, hl with | [_], _ => rfl
  have F8 := fun_mk (st := sNts) l8 c8 k8
  have b8 := F8.binds (ps := ["saying"]) fun _ _ _ _ _ _ us hl => match us, hl with | [_], _ => rfl
  have F9 := fun_mk (st := sMTest) l9 c9 k9
  have b9 := F9.binds (ps := ["saying"]) fun _ _ _ _ _ _ us hl => match us, hl with | [_], _ => rfl
  have F10 := fun_mk (st := sMPlain) l10 c10 k10
  have b10 := F10.binds (ps := ["saying"]) fun _ _ _ _ _ _ us hl => match us, hl with | [_], _ => rfl
  have F11 := fun_mk (st := sMNet) l11 c11 k11
  have b11 := F11.binds (ps := ["net"]) fun _ _ _ _ _ _ us hl => match us, hl with | [_], _ => rfl
  have F12 := fun_mk (st := sMTie) l12 c12 k12
  have b12 := F12.binds (ps := ["speech", "tie"]) fun _ _ _ _ _ _ us hl => match us, hl with | [_, _], _ => rfl
  have F13 := fun_mk (st := sHops) l13 c13 k13
  have b13 := F13.binds (ps := ["net", "letter", "count"]) fun _ _ _ _ _ _ us hl => match us, hl with | [_, _, _], _ => rfl
  have F14 := fun_mk (st := sTabs) l14 c14 k14
  have b14 := F14.binds (ps := ["net"]) fun _ _ _ _ _ _ us hl => match us, hl with | [_], _ => rfl
  have F15 := fun_mk (st := sSayOf) l15 c15 k15
  have b15 := F15.binds (ps := ["net"]) fun _ _ _ _ _ _ us hl => match us, hl with | [_], _ => rfl
  have F16 := fun_mk (st := sCell) l16 c16 k16
  have b16 := F16.binds (ps := ["_law_script", "_law_k"]) fun _ _ _ _ _ _ us hl => match us, hl with | [_, _], _ => rfl
  have F17 := fun_mk (st := sPurse) l17 c17 k17
  have b17 := F17.binds (ps := ["_law_cell_here"]) fun _ _ _ _ _ _ us hl => match us, hl with | [_], _ => rfl
  have F18 := fun_mk (st := sTake) l18 c18 k18
  have b18 := F18.binds (ps := ["_law_purse_here", "_law_many"]) fun _ _ _ _ _ _ us hl => match us, hl with | [_, _], _ => rfl
  have F19 := fun_mk (st := sSpeech) l19 c19 k19
  have b19 := F19.binds (ps := ["_law_cell_here", "_law_least"]) fun _ _ _ _ _ _ us hl => match us, hl with | [_, _], _ => rfl
  have F20 := fun_mk (st := sLone) l20 c20 k20
  have b20 := F20.binds (ps := ["_law_sort", "_law_purse_here", "_law_speech_here"]) fun _ _ _ _ _ _ us hl => match us, hl with | [_, _, _], _ => rfl
  have F21 := fun_mk (st := sGrown) l21 c21 k21
  have b21 := F21.binds (ps := ["_law_row", "_law_cell_here", "_law_speech_here", "_law_most"]) fun _ _ _ _ _ _ us hl => match us, hl with | [_, _, _, _], _ => rfl
  have F22 := fun_mk (st := sJoined) l22 c22 k22
  have b22 := F22.binds (ps := ["_law_row", "_law_word"]) fun _ _ _ _ _ _ us hl => match us, hl with | [_, _], _ => rfl
  have F23 := fun_mk (st := sSaying) l23 c23 k23
  have b23 := F23.binds (ps := ["_law_cells", "_law_speech_here", "_law_most"]) fun _ _ _ _ _ _ us hl => match us, hl with | [_, _, _], _ => rfl
  have F24 := fun_mk (st := sNet) l24 c24 k24
  have b24 := F24.binds (ps := ["_law_script", "_law_at"]) fun _ _ _ _ _ _ us hl => match us, hl with | [_, _], _ => rfl
  have F25 := fun_mk (st := sLIsT) l25 c25 k25
  have b25 := F25.binds (ps := ["_law_saying_here"]) fun _ _ _ _ _ _ us hl => match us, hl with | [_], _ => rfl
  have F26 := fun_mk (st := sLNote) l26 c26 k26
  have b26 := F26.binds (ps := ["_law_saying_here"]) fun _ _ _ _ _ _ us hl => match us, hl with | [_], _ => rfl
  have F27 := fun_mk (st := sDue) l27 c27 k27
  have b27 := F27.binds (ps := ["_law_speech_here", "_law_saying_here"]) fun _ _ _ _ _ _ us hl => match us, hl with | [_, _], _ => rfl
  have F28 := fun_mk (st := sNDue) l28 c28 k28
  have b28 := F28.binds (ps := ["_law_net_here"]) fun _ _ _ _ _ _ us hl => match us, hl with | [_], _ => rfl
  have F29 := fun_mk (st := sStrange) l29 c29 k29
  have b29 := F29.binds (ps := ["_law_purse_here", "_law_speech_here", "_law_rule"]) fun _ _ _ _ _ _ us hl => match us, hl with | [_, _, _], _ => rfl
  have F30 := fun_mk (st := sSpoiled) l30 c30 k30
  have b30 := F30.binds (ps := ["_law_net_here", "_law_purse_here"]) fun _ _ _ _ _ _ us hl => match us, hl with | [_, _], _ => rfl
  have F31 := fun_mk (st := sCaught) l31 c31 k31
  have b31 := F31.binds (ps := ["_law_way", "_law_net_here"]) fun _ _ _ _ _ _ us hl => match us, hl with | [_, _], _ => rfl
  have F32 := fun_mk (st := sRefused) l32 c32 k32
  have b32 := F32.binds (ps := ["_law_e", "_law_due_here"]) fun _ _ _ _ _ _ us hl => match us, hl with | [_, _], _ => rfl
  have F33 := fun_mk (st := sGood) l33 c33 k33
  have b33 := F33.binds (ps := ["_law_net_here", "_law_cell_here"]) fun _ _ _ _ _ _ us hl => match us, hl with | [_, _], _ => rfl
  have F34 := fun_mk (st := sLaw) l34 c34 k34
  have no : ∀ {x : Str}, PySem.W.nsIn K mainGlobals x = some none → mg x = none := fun z => PySem.W.mg_none_of X G z
  have gl : ∀ {x : Str} {v : Value}, PySem.W.nsIn K mainGlobals x = some (some v) → mg x = some v := fun z => PySem.W.mg_of X G z
  have xFc : XCls K cF := ⟨⟨_, _, _, _, _, _, _, _, _, _, _, _, _, _, _, lcF, (xtail1 cS)⟩, saF, gaF, gtF, kpF⟩
  have xVc : XCls K cV := ⟨⟨_, _, _, _, _, _, _, _, _, _, _, _, _, _, _, lcV, (xtail1 cS)⟩, saV, gaV, gtV, kpV⟩
  have xTc : XCls K cT := ⟨⟨_, _, _, _, _, _, _, _, _, _, _, _, _, _, _, lcT, (xtail1 cS)⟩, saT, gaT, gtT, kpT⟩
  have xPc : XCls K cP := ⟨⟨_, _, _, _, _, _, _, _, _, _, _, _, _, _, _, lcP, (xtail1 cS)⟩, saP, gaP, gtP, kpP⟩
  have xNc : XCls K cN := ⟨⟨_, _, _, _, _, _, _, _, _, _, _, _, _, _, _, lcN, (xtail1 cS)⟩, saN, gaN, gtN, kpN⟩
  have tH : ∀ H : Hp, SqT K H aH HS := fun H => sqt_mod llH rfl rfl (by show 4 ≤ sizeLine; decide) (.cons ⟨_, rfl⟩ (.cons ⟨_, rfl⟩ (.cons ⟨_, rfl⟩ (.cons ⟨_, rfl⟩ .nil))))
  have tD : ∀ H : Hp, SqT K H aD FS := fun H => sqt_mod llD rfl rfl (by show 2 ≤ sizeLine; decide) (.cons ⟨_, rfl⟩ (.cons ⟨_, rfl⟩ .nil))
  have tE : ∀ H : Hp, SqT K H aE TS := fun H => sqt_mod llE rfl rfl (by show 6 ≤ sizeLine; decide) (.cons ⟨_, rfl⟩ (.cons ⟨_, rfl⟩ (.cons ⟨_, rfl⟩ (.cons ⟨_, rfl⟩ (.cons ⟨_, rfl⟩ (.cons ⟨_, rfl⟩ .nil))))))
  have Wg : Sw K mg cS := ⟨gl mS, wga, wrd, wfc⟩
  have Ex : Exm K cS cF cV cT cP cN := ⟨xF, xV, xT, xP, xN⟩
  have B : XG K mg cF cV cT cP cG cN := ⟨gl mF, gl mV, gl mT, gl mP, gl mG, gl mN, ⟨xFc, clF, vF, ttF, eFF, eFV, eFT, eFP, eFN⟩, ⟨xVc, clV, vV, ttV, eVF, eVV, eVT, eVP, eVN⟩, ⟨xTc, clT, vT, ttT, eTF, eTV, eTT, eTP, eTN⟩, ⟨xPc, clP, vP, ttP, ePF, ePV, ePT, ePP, ePN⟩, ⟨xNc, clN, vN, ttN, eNF, eNV, eNT, eNP, eNN⟩, nFfield, nVvalue, nTsaying, nPsaying⟩
  refine ⟨PySem.W.fnOf "law" "law" (defArgs sLaw) (defBody sLaw) (defScope sLaw) .none kV34 dc34 pm34 an34 cd34 ct34, fun s v => .of_eq rfl, fun base _ _ => ?_⟩
  have GiF := ok_nf (P := l.prog) (w := w) (base := base) (C := cF) FiF Wg
  have GiV := ok_nv (P := l.prog) (w := w) (base := base) (C := cV) FiV Wg
  have GiT := ok_nt (P := l.prog) (w := w) (base := base) (C := cT) FiT Wg
  have GiP := ok_np (P := l.prog) (w := w) (base := base) (C := cP) FiP Wg
  have GMu := ok_must (P := l.prog) (w := w) (base := base) F2 xVc nVvalue aiV ⟨_, liV, rfl⟩ GiV biV (gl mV)
  have GPl := ok_place (P := l.prog) (w := w) (base := base) F1 xFc nFfield aiF ⟨_, liF, rfl⟩ GiF biF (gl mF) GMu b2 k2 (gl a2) (no zenumerate)
  have GHe := ok_held (P := l.prog) (w := w) (base := base) F4 (gl aaH) tH
  have GPa := ok_parts (P := l.prog) (w := w) (base := base) F3 GHe b4 k4 (gl a4)
  have GIs := ok_isT (P := l.prog) (w := w) (base := base) F7 GPa b3 k3 (gl a3) (no zall) (gl aaE) tE
  have GNt := ok_nts (P := l.prog) (w := w) (base := base) F8 GPa b3 k3 (gl a3) (no zlen)
  have GMt := ok_mtest (P := l.prog) (w := w) (base := base) F9 xTc nTsaying aiT ⟨_, liT, rfl⟩ GiT biT (gl mT) GIs b7 k7 (gl a7)
  have GMp := ok_mpart (P := l.prog) (w := w) (base := base) F6 GPl b1 k1 (gl a1) GMt b9 k9 (gl a9) (gl aaD) tD
  have GMs := ok_msay (P := l.prog) (w := w) (base := base) F5 GPa b3 k3 (gl a3) GMp b6 k6 (gl a6)
  have GMPl := ok_mplain (P := l.prog) (w := w) (base := base) F10 xPc nPsaying aiP ⟨_, liP, rfl⟩ GiP biP (gl mP) GNt b8 k8 (gl a8)
  have GTie := ok_mtie (P := l.prog) (w := w) (base := base) F12 GMu b2 k2 (gl a2) (no zenumerate)
  have GMN := ok_mnet (P := l.prog) (w := w) (base := base) F11 xNc jN (gl mN) GMs b5 k5 (gl a5) GMPl b10 k10 (gl a10) GTie b12 k12 (gl a12) (no zlen)
  have GHo := ok_hops (P := l.prog) (w := w) (base := base) F13 GMN b11 k11 (gl a11)
  have GSf := ok_sayof (P := l.prog) (w := w) (base := base) F15 GMN b11 k11 (gl a11)
  have GTb := ok_tabs (P := l.prog) (w := w) (base := base) F14 GMN b11 k11 (gl a11)
  have GC := ok_cell (P := l.prog) (w := w) (base := base) F16 (no zlen)
  have GP := ok_purse (P := l.prog) (w := w) (base := base) F17 (no zrange) (no zabs)
  have GT := ok_take (P := l.prog) (w := w) (base := base) F18 (no zint)
  have GS := ok_speech (P := l.prog) (w := w) (base := base) F19 GP b17 k17 (gl a17) GT b18 k18 (gl a18) (no zrange) (no zmax) (no zmin) (no ztuple)
  have GLo := ok_lone (P := l.prog) (w := w) (base := base) F20 GT b18 k18 (gl a18) (no zlen)
  have GJo := ok_joined (P := l.prog) (w := w) (base := base) F22 (no zmax)
  have GGr := ok_grown (P := l.prog) (w := w) (base := base) F21 GP b17 k17 (gl a17) GT b18 k18 (gl a18) GLo b20 k20 (gl a20) GJo b22 k22 (gl a22) (no zsum) (no zlen)
  have GSa := ok_saying (P := l.prog) (w := w) (base := base) F23 GGr b21 k21 (gl a21) GJo b22 k22 (gl a22) (no zlen)
  have GNe := ok_net (P := l.prog) (w := w) (base := base) F24 GC b16 k16 (gl a16) GS b19 k19 (gl a19) GSa b23 k23 (gl a23) GP b17 k17 (gl a17) GT b18 k18 (gl a18) (no zrange) (no ztuple)
  have GLT := ok_lt (P := l.prog) (w := w) (base := base) F25 b25 k25 (gl a25) (no zlen)
  have GBa := ok_due (P := l.prog) (w := w) (base := base) F27 b27 k27 (gl a27) GLT b25 k25 (gl a25) (no zint)
  have GHn := ok_hn (P := l.prog) (w := w) (base := base) F26 b26 k26 (gl a26) (no zlen)
  have GB58 := GBa 58
  have GH58 := GHn 58
  have GND := ok_ndue (P := l.prog) (w := w) (base := base) F28 GB58 b27 k27 (gl a27) GH58 b26 k26 (gl a26) (no zlen) (no zrange)
  have GSt := ok_strange (P := l.prog) (w := w) (base := base) F29 GT b18 k18 (gl a18) (no zlen)
  have GSp0 := ok_spoiled (P := l.prog) (w := w) (base := base) (k := 0) F30 (by decide) GT b18 k18 (gl a18) GSt b29 k29 (gl a29) (no zlen) (no zmin) (no ztuple)
  have GSp1 := ok_spoiled (P := l.prog) (w := w) (base := base) (k := 1) F30 (by decide) GT b18 k18 (gl a18) GSt b29 k29 (gl a29) (no zlen) (no zmin) (no ztuple)
  have GCa := ok_caught (P := l.prog) (w := w) (base := base) F31 Ex (gl mS) GMN b11 k11 (gl a11) GHo b13 k13 (gl a13) GSf b15 k15 (gl a15) GTb b14 k14 (gl a14) (no zlen)
  have GRe := ok_refused (P := l.prog) (w := w) (base := base) F32 B (no zisinstance) (no zValueError)
  have GGo := ok_good (P := l.prog) (w := w) (base := base) F33 GND b28 k28 (gl a28) GMN b11 k11 (gl a11) GRe b32 k32 (gl a32) GCa b31 k31 (gl a31) (no zrange)
  exact ok_law F34 GNe b24 k24 (gl a24) GP b17 k17 (gl a17) GSp0 GSp1 b30 k30 (gl a30) GGo b33 k33 (gl a33)
theorem walk {l : PySem.W.OpenLaw} {q : Program} {loose : List Str} {XP : (Str → Option Value) → Heap → Prop} {YP : World → Heap → Prop} {d : DefRec} {K : Params → PySem.W.Frag} (hn : l.most = some 63) (hdf : d.params.defaults = [])
    (hY : ∀ (w : World) (h : Heap), YP w h → (K w.params).In h)
    (F : ∀ (w : World) (mg : Str → Option Value) (fa : Addr) (h : Heap), (K w.params).In h → h.Ns mainGlobals mg → mg d.name = some (.ref fa) →
      ∃ fd : FuncData, (∀ (s : Shared) (u : Value), BindsTo s fd ⟨[u], []⟩ [("_law_script", u)]) ∧ ∀ base : Heap, (K w.params).In base → base.Ns mainGlobals mg → FnOk l.prog w (K w.params) mg base CX0 63 fa fd ["_law_script"] (spLaw (K w.params))) :
    PySem.W.WalkO q loose XP YP l.row.toRowW d [] (fun f vs => PySem.call f vs) :=
  L2.walk_of (n := 63) (k := 63) (x := "_law_script") (CX := fun _ => CX0) (sp := fun w => spLaw (K w.params)) hn (by decide) hdf ⟨rfl, by decide, by decide⟩ hY F (fun _ _ a ns hl _ hS => ⟨a, ns, rfl, hS, hl, fun _ => rfl⟩) fun _ _ _ _ _ z => z
end S7


set_option Elab.async false
set_option maxRecDepth 100000
set_option maxHeartbeats 4000000
def PySem.W.Fast.tw15095744278619703566 : Unit := ()
def PySem.W.Fast.tw11732037952054090339 : Unit := ()
def PySem.W.Fast.tw15100419108575223196 : Unit := ()
def PySem.W.Fast.tw3019129997146900014 : Unit := ()
def PySem.W.Fast.tw6999722188567678500 : Unit := ()
def PySem.W.Fast.tw14081299122331025694 : Unit := ()
def PySem.W.Fast.tw10384902814250319676 : Unit := ()
def PySem.W.Fast.tw16361827871040018933 : Unit := ()
def PySem.W.Fast.tw10693434228615812650 : Unit := ()
def PySem.W.Fast.tw1480751109412949919 : Unit := ()
def PySem.W.Fast.tw2192733998441221998 : Unit := ()
def PySem.W.Fast.tw9788087609065457251 : Unit := ()
def PySem.W.Fast.tw17750411761484165508 : Unit := ()
def PySem.W.Fast.tw13177587416669777092 : Unit := ()
def PySem.W.Fast.tw2316314890913758838 : Unit := ()
def PySem.W.Fast.tw3727305275374504258 : Unit := ()
def PySem.W.Fast.tw14838853905823081273 : Unit := ()
def PySem.W.Fast.tw9836256037454769832 : Unit := ()
def PySem.W.Fast.tw9166990850936443739 : Unit := ()
def PySem.W.Fast.tw4494791218006113617 : Unit := ()
def PySem.W.Fast.tw6301223528320550316 : Unit := ()
def PySem.W.Fast.tw10324516804518396347 : Unit := ()
def PySem.W.Fast.tw2992031729622289055 : Unit := ()
def PySem.W.Fast.tw10233995205594145797 : Unit := ()
def PySem.W.Fast.tw17830694852707214778 : Unit := ()
def PySem.W.Fast.tw14708826430696909175 : Unit := ()
def PySem.W.Fast.tw9750257114866221867 : Unit := ()
def PySem.W.Fast.tw12574101408713556547 : Unit := ()
def PySem.W.Fast.tw9339539422523545500 : Unit := ()
open PySem PySem.W PyProof.Rows
set_option maxRecDepth 100000 in
set_option maxHeartbeats 0 in
theorem PySem.Challenge.cw_switchsay_k72_no_net_holds : PySem.Challenge.rw_switchsay_k72_no_net.Holds := by
  w_on; o_law; k_head; (case hw => w_witness2)
  k_fill
  refine S7.walk (l := PySem.Challenge.rw_switchsay_k72_no_net) rfl rfl (fun w h Y => PySem.W.kIn_of Y) ?F
  case F =>
    intro w mg fa h KX G hmg
    refine' S7.all_mk KX G hmg ?mS ?mF ?lcF ?saF ?gaF ?gtF ?kpF ?mV ?lcV ?saV ?gaV ?gtV ?kpV ?mT ?lcT ?saT ?gaT ?gtT ?kpT ?mP ?lcP ?saP ?gaP ?gtP ?kpP ?mG ?mN ?lcN ?saN ?gaN ?gtN ?kpN ?clF ?clV ?clT ?clP ?clN ?jN ?wga ?wrd ?wfc ?nFfield ?nVvalue ?nTsaying ?nPsaying ?vF ?vV ?vT ?vP ?vN ?ttF ?ttV ?ttT ?ttP ?ttN ?eFF ?eFV ?eFT ?eFP ?eFN ?eVF ?eVV ?eVT ?eVP ?eVN ?eTF ?eTV ?eTT ?eTP ?eTN ?ePF ?ePV ?ePT ?ePP ?ePN ?eNF ?eNV ?eNT ?eNP ?eNN ?xF ?xV ?xT ?xP ?xN ?aiF ?liF ?ciF ?kiF ?aiV ?liV ?ciV ?kiV ?aiT ?liT ?ciT ?kiT ?aiP ?liP ?ciP ?kiP ?a1 ?l1 ?c1 ?k1 ?a2 ?l2 ?c2 ?k2 ?a3 ?l3 ?c3 ?k3 ?a4 ?l4 ?c4 ?k4 ?a5 ?l5 ?c5 ?k5 ?a6 ?l6 ?c6 ?k6 ?a7 ?l7 ?c7 ?k7 ?a8 ?l8 ?c8 ?k8 ?a9 ?l9 ?c9 ?k9 ?a10 ?l10 ?c10 ?k10 ?a11 ?l11 ?c11 ?k11 ?a12 ?l12 ?c12 ?k12 ?a13 ?l13 ?c13 ?k13 ?a14 ?l14 ?c14 ?k14 ?a15 ?l15 ?c15 ?k15 ?a16 ?l16 ?c16 ?k16 ?a17 ?l17 ?c17 ?k17 ?a18 ?l18 ?c18 ?k18 ?a19 ?l19 ?c19 ?k19 ?a20 ?l20 ?c20 ?k20 ?a21 ?l21 ?c21 ?k21 ?a22 ?l22 ?c22 ?k22 ?a23 ?l23 ?c23 ?k23 ?a24 ?l24 ?c24 ?k24 ?a25 ?l25 ?c25 ?k25 ?a26 ?l26 ?c26 ?k26 ?a27 ?l27 ?c27 ?k27 ?a28 ?l28 ?c28 ?k28 ?a29 ?l29 ?c29 ?k29 ?a30 ?l30 ?c30 ?k30 ?a31 ?l31 ?c31 ?k31 ?a32 ?l32 ?c32 ?k32 ?a33 ?l33 ?c33 ?k33 ?a34 ?l34 ?c34 ?k34 ?aaH ?llH ?aaD ?llD ?aaE ?llE ?zrange ?zabs ?zint ?zmax ?zmin ?ztuple ?zlen ?zisinstance ?zenumerate ?zValueError ?zsum ?zall
    (case mS => k_is)
    (case mF => k_is)
    (case lcF => k_is)
    (case saF => k_is)
    (case gaF => k_is)
    (case gtF => k_is)
    (case kpF => k_is)
    (case mV => k_is)
    (case lcV => k_is)
    (case saV => k_is)
    (case gaV => k_is)
    (case gtV => k_is)
    (case kpV => k_is)
    (case mT => k_is)
    (case lcT => k_is)
    (case saT => k_is)
    (case gaT => k_is)
    (case gtT => k_is)
    (case kpT => k_is)
    (case mP => k_is)
    (case lcP => k_is)
    (case saP => k_is)
    (case gaP => k_is)
    (case gtP => k_is)
    (case kpP => k_is)
    (case mG => k_is)
    (case mN => k_is)
    (case lcN => k_is)
    (case saN => k_is)
    (case gaN => k_is)
    (case gtN => k_is)
    (case kpN => k_is)
    (case clF => k_is)
    (case clV => k_is)
    (case clT => k_is)
    (case clP => k_is)
    (case clN => k_is)
    (case jN => k_is)
    (case wga => k_is)
    (case wrd => k_is)
    (case wfc => k_is)
    (case nFfield => k_is)
    (case nVvalue => k_is)
    (case nTsaying => k_is)
    (case nPsaying => k_is)
    (case vF => kit_is)
    (case vV => kit_is)
    (case vT => kit_is)
    (case vP => kit_is)
    (case vN => kit_is)
    (case ttF => kit_is)
    (case ttV => kit_is)
    (case ttT => kit_is)
    (case ttP => kit_is)
    (case ttN => kit_is)
    (case eFF => kit_is)
    (case eFV => kit_is)
    (case eFT => kit_is)
    (case eFP => kit_is)
    (case eFN => kit_is)
    (case eVF => kit_is)
    (case eVV => kit_is)
    (case eVT => kit_is)
    (case eVP => kit_is)
    (case eVN => kit_is)
    (case eTF => kit_is)
    (case eTV => kit_is)
    (case eTT => kit_is)
    (case eTP => kit_is)
    (case eTN => kit_is)
    (case ePF => kit_is)
    (case ePV => kit_is)
    (case ePT => kit_is)
    (case ePP => kit_is)
    (case ePN => kit_is)
    (case eNF => kit_is)
    (case eNV => kit_is)
    (case eNT => kit_is)
    (case eNP => kit_is)
    (case eNN => kit_is)
    (case xF => kts_exm)
    (case xV => kts_exm)
    (case xT => kts_exm)
    (case xP => kts_exm)
    (case xN => kts_exm)
    (case aiF => k_is)
    (case liF => k_is)
    (case ciF => k_is)
    (case kiF => k_is)
    (case aiV => k_is)
    (case liV => k_is)
    (case ciV => k_is)
    (case kiV => k_is)
    (case aiT => k_is)
    (case liT => k_is)
    (case ciT => k_is)
    (case kiT => k_is)
    (case aiP => k_is)
    (case liP => k_is)
    (case ciP => k_is)
    (case kiP => k_is)
    (case a1 => k_is)
    (case l1 => k_is)
    (case c1 => k_is)
    (case k1 => k_is)
    (case a2 => k_is)
    (case l2 => k_is)
    (case c2 => k_is)
    (case k2 => k_is)
    (case a3 => k_is)
    (case l3 => k_is)
    (case c3 => k_is)
    (case k3 => k_is)
    (case a4 => k_is)
    (case l4 => k_is)
    (case c4 => k_is)
    (case k4 => k_is)
    (case a5 => k_is)
    (case l5 => k_is)
    (case c5 => k_is)
    (case k5 => k_is)
    (case a6 => k_is)
    (case l6 => k_is)
    (case c6 => k_is)
    (case k6 => k_is)
    (case a7 => k_is)
    (case l7 => k_is)
    (case c7 => k_is)
    (case k7 => k_is)
    (case a8 => k_is)
    (case l8 => k_is)
    (case c8 => k_is)
    (case k8 => k_is)
    (case a9 => k_is)
    (case l9 => k_is)
    (case c9 => k_is)
    (case k9 => k_is)
    (case a10 => k_is)
    (case l10 => k_is)
    (case c10 => k_is)
    (case k10 => k_is)
    (case a11 => k_is)
    (case l11 => k_is)
    (case c11 => k_is)
    (case k11 => k_is)
    (case a12 => k_is)
    (case l12 => k_is)
    (case c12 => k_is)
    (case k12 => k_is)
    (case a13 => k_is)
    (case l13 => k_is)
    (case c13 => k_is)
    (case k13 => k_is)
    (case a14 => k_is)
    (case l14 => k_is)
    (case c14 => k_is)
    (case k14 => k_is)
    (case a15 => k_is)
    (case l15 => k_is)
    (case c15 => k_is)
    (case k15 => k_is)
    (case a16 => k_is)
    (case l16 => k_is)
    (case c16 => k_is)
    (case k16 => k_is)
    (case a17 => k_is)
    (case l17 => k_is)
    (case c17 => k_is)
    (case k17 => k_is)
    (case a18 => k_is)
    (case l18 => k_is)
    (case c18 => k_is)
    (case k18 => k_is)
    (case a19 => k_is)
    (case l19 => k_is)
    (case c19 => k_is)
    (case k19 => k_is)
    (case a20 => k_is)
    (case l20 => k_is)
    (case c20 => k_is)
    (case k20 => k_is)
    (case a21 => k_is)
    (case l21 => k_is)
    (case c21 => k_is)
    (case k21 => k_is)
    (case a22 => k_is)
    (case l22 => k_is)
    (case c22 => k_is)
    (case k22 => k_is)
    (case a23 => k_is)
    (case l23 => k_is)
    (case c23 => k_is)
    (case k23 => k_is)
    (case a24 => k_is)
    (case l24 => k_is)
    (case c24 => k_is)
    (case k24 => k_is)
    (case a25 => k_is)
    (case l25 => k_is)
    (case c25 => k_is)
    (case k25 => k_is)
    (case a26 => k_is)
    (case l26 => k_is)
    (case c26 => k_is)
    (case k26 => k_is)
    (case a27 => k_is)
    (case l27 => k_is)
    (case c27 => k_is)
    (case k27 => k_is)
    (case a28 => k_is)
    (case l28 => k_is)
    (case c28 => k_is)
    (case k28 => k_is)
    (case a29 => k_is)
    (case l29 => k_is)
    (case c29 => k_is)
    (case k29 => k_is)
    (case a30 => k_is)
    (case l30 => k_is)
    (case c30 => k_is)
    (case k30 => k_is)
    (case a31 => k_is)
    (case l31 => k_is)
    (case c31 => k_is)
    (case k31 => k_is)
    (case a32 => k_is)
    (case l32 => k_is)
    (case c32 => k_is)
    (case k32 => k_is)
    (case a33 => k_is)
    (case l33 => k_is)
    (case c33 => k_is)
    (case k33 => k_is)
    (case a34 => k_is)
    (case l34 => k_is)
    (case c34 => k_is)
    (case k34 => k_is)
    (case aaH => k_is)
    (case llH => k_is)
    (case aaD => k_is)
    (case llD => k_is)
    (case aaE => k_is)
    (case llE => k_is)
    (case zrange => k_is)
    (case zabs => k_is)
    (case zint => k_is)
    (case zmax => k_is)
    (case zmin => k_is)
    (case ztuple => k_is)
    (case zlen => k_is)
    (case zisinstance => k_is)
    (case zenumerate => k_is)
    (case zValueError => k_is)
    (case zsum => k_is)
    (case zall => k_is)

