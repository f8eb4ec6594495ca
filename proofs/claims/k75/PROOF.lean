import PyProof.Rows.All
import Wide.All
import OpenK.AllK
import Wide.FinOn
import Lean
import PyProof.EqAt
import PyProof.EqKinds
import PyProof.TupleCall
import PySem.Challenge.RW_hourtable_k75_whole_moves_one_behind_ano
set_option Elab.async false
set_option linter.all false
set_option maxRecDepth 100000
set_option maxHeartbeats 4000000
/-! THE HAND LAYER, for ints, bools, texts, own classes, LISTS and tuples (index, slices, in, append, pop ..), calls, loops. Paste it whole ahead of your own text; what your proof does not reach may be deleted. -/
namespace L2
open PySem PySem.Spec PyProof.Rows

/-- a key: an int or a str -/
abbrev Key := Sum Int Str
def keyIs : Key → Value → Bool
  | .inl k, v => Value.isInt k v
  | .inr x, v => Value.isStrOf x v
def keyH (w : World) : Key → Int
  | .inl k => hashInt k
  | .inr x => hashStr w x
theorem keyIs_shape : ∀ {k : Key} {v : Value}, keyIs k v = true → (∃ i t, k = Sum.inl i ∧ v = Value.int i t) ∨ (∃ x t, k = Sum.inr x ∧ v = Value.str x t)
  | .inl i, v, h => by
    obtain ⟨t, e⟩ := Value.isInt_shape (k := i) (v := v) h
    exact .inl ⟨i, t, rfl, e⟩
  | .inr x, v, h => by
    obtain ⟨t, e⟩ := Value.isStrOf_shape (x := x) (v := v) h
    exact .inr ⟨x, t, rfl, e⟩
theorem key_ll (a b : Int) : decide ((Sum.inl a : Key) = Sum.inl b) = (a == b) := by
  by_cases e : a = b
  · subst e; simp
  · have h : ¬ (Sum.inl a : Key) = Sum.inl b := fun q => e (Sum.inl.inj q)
    rw [decide_eq_false h]
    exact (beq_eq_false_iff_ne.mpr e).symm
theorem key_rr (a b : Str) : decide ((Sum.inr a : Key) = Sum.inr b) = decide (a = b) := by
  by_cases e : a = b
  · subst e; simp
  · have h : ¬ (Sum.inr a : Key) = Sum.inr b := fun q => e (Sum.inr.inj q)
    rw [decide_eq_false h, decide_eq_false e]
theorem key_lr (a : Int) (b : Str) : decide ((Sum.inl a : Key) = Sum.inr b) = false := decide_eq_false (fun q => nomatch q)
theorem key_rl (a : Str) (b : Int) : decide ((Sum.inr a : Key) = Sum.inl b) = false := decide_eq_false (fun q => nomatch q)

def mixKind (prog : Program) (w : World) : PySem.KeyKind prog w Key where
  is := keyIs
  hash := keyH w
  inj := fun v a b ha hb => by
    rcases keyIs_shape ha with ⟨i, t, rfl, rfl⟩ | ⟨x, t, rfl, rfl⟩
    · rcases keyIs_shape hb with ⟨j, u, rfl, e⟩ | ⟨y, u, rfl, e⟩
      · injection e with e1 _; rw [e1]
      · exact nomatch e
    · rcases keyIs_shape hb with ⟨j, u, rfl, e⟩ | ⟨y, u, rfl, e⟩
      · exact nomatch e
      · injection e with e1 _; rw [e1]
  byValue := fun k v h => by
    rcases keyIs_shape h with ⟨i, t, rfl, rfl⟩ | ⟨x, t, rfl, rfl⟩ <;> rfl
  pyHash := fun hv h => by
    rcases keyIs_shape hv with ⟨i, t, rfl, rfl⟩ | ⟨x, t, rfl, rfl⟩
    · exact wpAny_pyHash_int h
    · exact wpAny_pyHash_str h
  eqBool := fun hu hv h => by
    rcases keyIs_shape hu with ⟨i, t, rfl, rfl⟩ | ⟨x, t, rfl, rfl⟩
    · rcases keyIs_shape hv with ⟨j, u, rfl, rfl⟩ | ⟨y, u, rfl, rfl⟩
      · rw [key_ll] at h; exact wpAny_eqBool_int h
      · rw [key_lr] at h; exact SeqAt.EqAt.int_str i t y u _ _ _ _ h
    · rcases keyIs_shape hv with ⟨j, u, rfl, rfl⟩ | ⟨y, u, rfl, rfl⟩
      · rw [key_rl] at h; exact SeqAt.EqAt.str_int x t j u _ _ _ _ h
      · rw [key_rr] at h; exact wpAny_eqBool_str h
  «strs» := fun k x t v h => by
    rcases keyIs_shape h with ⟨i, u, rfl, e⟩ | ⟨y, u, rfl, e⟩
    · exact nomatch e
    · injection e with e1 _
      subst e1
      cases v <;> rfl

end L2

namespace L2
open PySem PySem.Spec PyProof.Rows

/-- a value, without the heap -/
inductive V where
  | non | bl (b : Bool) | int (i : Int) | str (x : Str) | byt (b : Array UInt8) | flt (b : UInt64) | ref (a : Addr) | ty (n : String)
  deriving DecidableEq

def RelV : V → Value → Prop
  | .non, u => u = Value.none
  | .bl b, u => u = Value.bool b
  | .int i, u => ∃ t, u = Value.int i t
  | .str x, u => ∃ t, u = Value.str x t
  | .byt b, u => ∃ t, u = Value.bytes b t
  | .flt b, u => ∃ t, u = Value.float b t
  | .ref a, u => u = Value.ref a
  | .ty n, u => u = Value.type n

abbrev Vals : List V → List Value → Prop := Paired RelV
theorem Vals.length {xs : List V} {us : List Value} (r : Vals xs us) : xs.length = us.length := Paired.length r
theorem Vals.get : ∀ {xs : List V} {us : List Value} {i : Nat} {x : V}, Vals xs us → xs[i]? = some x → ∃ u, us[i]? = some u ∧ RelV x u
  | _, _, _, _, .nil, e => by simp at e
  | _, _, 0, _, .cons r _, e => by simp at e; subst e; exact ⟨_, rfl, r⟩
  | _, _, i + 1, x, .cons _ t, e => by
    obtain ⟨u, h1, h2⟩ := Vals.get (i := i) (x := x) t (by simpa using e)
    exact ⟨u, by simpa using h1, h2⟩
theorem Vals.set {x : V} {u : Value} (r : RelV x u) : ∀ {xs : List V} {us : List Value} (i : Nat), Vals xs us → Vals (xs.set i x) (us.set i u)
  | _, _, _, .nil => .nil
  | _, _, 0, .cons _ t => .cons r t
  | _, _, i + 1, .cons q t => .cons q (Vals.set r i t)
theorem Vals.append : ∀ {xs ys : List V} {us ws : List Value}, Vals xs us → Vals ys ws → Vals (xs ++ ys) (us ++ ws)
  | _, _, _, _, .nil, s => s
  | _, _, _, _, .cons r t, s => .cons r (Vals.append t s)
theorem Vals.take : ∀ {xs : List V} {us : List Value} (n : Nat), Vals xs us → Vals (xs.take n) (us.take n)
  | _, _, 0, _ => .nil
  | _, _, _ + 1, .nil => .nil
  | _, _, n + 1, .cons r t => .cons r (Vals.take n t)
theorem Vals.drop : ∀ {xs : List V} {us : List Value} (n : Nat), Vals xs us → Vals (xs.drop n) (us.drop n)
  | _, _, 0, r => r
  | _, _, _ + 1, .nil => .nil
  | _, _, n + 1, .cons _ t => Vals.drop n t
def RelO : Option V → Option Value → Prop
  | some v, some u => RelV v u
  | none, none => True
  | _, _ => False
def KV {κ : Type} : List (κ × V) → List (κ × Value) → Prop := Paired fun (p : κ × V) (q : κ × Value) => p.1 = q.1 ∧ RelV p.2 q.2

/-- a key of a dict (00_mix): an int or a text -/
def kV : Key → V
  | .inl i => .int i
  | .inr x => .str x

/-- what stands at a tracked address -/
inductive HO where
  /-- a list -/
  | lst (xs : List V)
  /-- a tuple (never changes) -/
  | tup (xs : List V)
  /-- a dict whose keys are ints and texts; one whose keys are tuples of ints and texts (the empty one is both) -/
  | dK (kvs : List (Key × V)) | dT (kvs : List (List Key × V))
  /-- a set of ints: its members, its size -/
  | set (S : Int → Bool) (n : Nat)
  /-- an instance of the class at C, its dict at dx, its attributes -/
  | ins (C dx : Addr) (fs : List (Str × V))
  /-- the dict of the instance at x -/
  | own (x : Addr)
  /-- the dict of an exception -/
  | xd (fs : List (Str × V))
  /-- a bound method, f of x -/
  | met (f x : Addr)
  /-- a range object lo, lo + 1, .. below hi -/
  | rng (lo hi : Int)
  /-- a thing that is known to the object (the script; a dict while a loop walks it): read, never written while it is so -/
  | frz (o : Obj) (u : HO)
  /-- a code object's table -/
  | tbl (ps : Array Value)
  /-- any other thing, by what is true of its one object (a def of one's own: SetO a S n := HO.ext fun h => ..) -/
  | ext (φ : Heap → Prop)

abbrev Hp := Addr → Option HO
def upd (H : Hp) (a : Addr) (o : HO) : Hp := fun b => if b = a then some o else H b
theorem upd_same {H : Hp} {a : Addr} {o : HO} : upd H a o a = some o := by unfold upd; rw [if_pos rfl]
theorem upd_ne {H : Hp} {a b : Addr} {o : HO} (h : b ≠ a) : upd H a o b = H b := by unfold upd; rw [if_neg h]
/-- two objects of different content stand apart -/
theorem ne_of {H : Hp} {a b : Addr} {o u : HO} (h : H a = some o) (h' : H b = some u) (d : o ≠ u) : a ≠ b := by
  intro e; subst e; rw [h] at h'; exact d (Option.some.inj h')
theorem ne_of_none {H : Hp} {a b : Addr} {o : HO} (h : H a = some o) (h' : H b = none) : a ≠ b := by
  intro e; subst e; rw [h] at h'; cases h'

/-- a tuple that has no names of its own -/
def IsTupN (h : Heap) (a : Addr) (items : Array Value) : Prop := ∃ o, h.get? a = some o ∧ o.cls = .type "tuple" ∧ o.dict = none ∧ ∃ n, o.data = .seq items n
theorem IsTupN.tup {h : Heap} {a : Addr} {items : Array Value} (p : IsTupN h a items) : IsTup h a items := let ⟨o, e, c, _, n, d⟩ := p; ⟨o, e, c, n, d⟩
theorem IsTupN.lt {h : Heap} {a : Addr} {items : Array Value} (p : IsTupN h a items) : a < h.objs.size := p.tup.lt
theorem IsTupN.new (h : Heap) (items : Array Value) : IsTupN (h.push { cls := .type "tuple", data := .seq items }) h.objs.size items := ⟨_, Heap.get?_push_size _ rfl, rfl, rfl, _, rfl⟩
section
variable (P : Program) (w : World)
def ObjOk (H : Hp) (h : Heap) (a : Addr) : HO → Prop
  | .lst xs => xs.length ≤ sizeLine ∧ ∃ (its : List Value) (n : Nat), Vals xs its ∧ h.get? a = some { cls := .type "list", data := .seq its.toArray n }
  | .tup xs => xs.length ≤ sizeLine ∧ ∃ its : List Value, Vals xs its ∧ IsTupN h a its.toArray
  | .dK kvs => kvs.length ≤ sizeLine ∧ (a == sysModules) = false ∧ ∃ vs, KV kvs vs ∧ h.DictOf (mixKind P w) a vs
  | .dT kvs => kvs.length ≤ sizeLine ∧ (a == sysModules) = false ∧ ∃ xs : List (List Key × Addr × Value),
      Paired (fun (p : List Key × V) (q : List Key × Addr × Value) => p.1 = q.1 ∧ H q.2.1 = some (.tup (p.1.map kV)) ∧ RelV p.2 q.2.2) kvs xs ∧
      ∃ o es ep, h.get? a = some o ∧ o.ExactDict ∧ o.data = .dict es ep ∧ es.toList = xs.map (entryOfKey (tupleKind (mixKind P w))) ∧ (xs.map (·.1)).Nodup
  | .set S n => h.SetOf (intKind P w) a S n
  | .ins C dx fs => H dx = some (.own a) ∧ fs.length ≤ 1000 ∧ dx ≠ a ∧ h.get? a = some (PySem.W.instObj C dx) ∧
      ∃ mA, h.Ns1 dx mA ∧ (∀ f, RelO (fs.lookup f) (mA f)) ∧ PySem.Within mA (fs.map (·.1))
  | .own _ => ∃ o, h.get? a = some o
  | .xd fs => ∃ mA, h.Ns1 a mA ∧ ∀ f, RelO (fs.lookup f) (mA f)
  | .rng lo hi => ∃ t u v, h.get? a = some { cls := .type "range", data := .fields #[.int lo t, .int hi u, .int 1 v] }
  | .frz o u => h.get? a = some o ∧ ObjOk H h a u
  | .tbl ps => h.get? a = some { cls := .none, data := .fields ps }
  | .met f x => h.get? a = some (PySem.W.methodObj (.ref f) (.ref x))
  | .ext φ => φ h ∧ (∃ o, h.get? a = some o) ∧ ∀ h1 h2 : Heap, φ h1 → (∀ o, h1.get? a = some o → h2.get? a = some o) → φ h2
/-- the abstract heap is held -/
def HOk (H : Hp) (h : Heap) : Prop := ∀ a o, H a = some o → ObjOk P w H h a o
end

section
variable {P : Program} {w : World} {H H' : Hp} {h h' : Heap} {a : Addr} {o : HO}
theorem ObjOk.lt (x : ObjOk P w H h a o) : a < h.objs.size := by
  cases o with
  | lst xs => obtain ⟨_, _, _, _, e⟩ := x; exact Heap.lt_size e
  | tup xs => obtain ⟨_, _, _, p⟩ := x; exact p.lt
  | dK kvs => obtain ⟨_, _, _, _, o, _, _, e, _⟩ := x; exact Heap.lt_size e
  | dT kvs => obtain ⟨_, _, _, _, o, _, _, e, _⟩ := x; exact Heap.lt_size e
  | set S n => obtain ⟨o, _, _, _, e, _⟩ := x; exact Heap.lt_size e
  | ins C dx fs => obtain ⟨_, _, _, e, _⟩ := x; exact Heap.lt_size e
  | own y => obtain ⟨_, e⟩ := x; exact Heap.lt_size e
  | xd fs => obtain ⟨_, ⟨_, _, _, e, _⟩, _⟩ := x; exact Heap.lt_size e
  | rng lo hi => obtain ⟨_, _, _, e⟩ := x; exact Heap.lt_size e
  | frz ob u => obtain ⟨e, _⟩ := x; exact Heap.lt_size e
  | tbl ps => exact Heap.lt_size (show h.get? a = some _ from x)
  | met f y => exact Heap.lt_size (show h.get? a = some _ from x)
  | ext φ => obtain ⟨_, ⟨_, e⟩, _⟩ := x; exact Heap.lt_size e
theorem Paired.mapP {α β : Type} {F G : α → β → Prop} : ∀ {l₁ : List α} {l₂ : List β}, Paired F l₁ l₂ → (∀ a b, F a b → G a b) → Paired G l₁ l₂
  | _, _, .nil, _ => .nil
  | _, _, .cons r t, f => .cons (f _ _ r) (Paired.mapP t f)
/-- what an object's description leans on: its own object, its own dict, the tuples -/
theorem ObjOk.stay (x : ObjOk P w H h a o) (k : ∀ b u, (b = a ∨ H b = some (.own a)) → h.get? b = some u → h'.get? b = some u)
    (ho : ∀ b, H b = some (.own a) → H' b = some (.own a)) (ht : ∀ b xs, H b = some (.tup xs) → H' b = some (.tup xs)) : ObjOk P w H' h' a o := by
  induction o with
  | lst xs => obtain ⟨z, its, n, r, e⟩ := x; exact ⟨z, its, n, r, k _ _ (.inl rfl) e⟩
  | tup xs => obtain ⟨z, its, r, ob, e, c⟩ := x; exact ⟨z, its, r, ob, k _ _ (.inl rfl) e, c⟩
  | dK kvs => obtain ⟨z, y, vs, r, ob, es, ep, e, c⟩ := x; exact ⟨z, y, vs, r, ob, es, ep, k _ _ (.inl rfl) e, c⟩
  | dT kvs =>
    obtain ⟨z, y, xs, r, ob, es, ep, e, c⟩ := x
    exact ⟨z, y, xs, Paired.mapP r fun p q z => ⟨z.1, ht _ _ z.2.1, z.2.2⟩, ob, es, ep, k _ _ (.inl rfl) e, c⟩
  | set S n => obtain ⟨ob, es, ep, t, e, c⟩ := x; exact ⟨ob, es, ep, t, k _ _ (.inl rfl) e, c⟩
  | ins C dx fs =>
    obtain ⟨d, z, ne, e, mA, ⟨od, es, ep, e2, c⟩, r⟩ := x
    exact ⟨ho _ d, z, ne, k _ _ (.inl rfl) e, mA, ⟨od, es, ep, k _ _ (.inr d) e2, c⟩, r⟩
  | own y => obtain ⟨ob, e⟩ := x; exact ⟨ob, k _ _ (.inl rfl) e⟩
  | xd fs => obtain ⟨mA, ⟨od, es, ep, e, c⟩, r⟩ := x; exact ⟨mA, ⟨od, es, ep, k _ _ (.inl rfl) e, c⟩, r⟩
  | rng lo hi => obtain ⟨t, u, v, e⟩ := x; exact ⟨t, u, v, k _ _ (.inl rfl) e⟩
  | frz ob u ih => obtain ⟨e, q⟩ := x; exact ⟨k _ _ (.inl rfl) e, ih q⟩
  | tbl ps =>
    have e : h.get? a = some { cls := .none, data := .fields ps } := x
    show h'.get? a = some { cls := .none, data := .fields ps }
    exact k a _ (.inl rfl) e
  | met f y =>
    have e : h.get? a = some (PySem.W.methodObj (.ref f) (.ref y)) := x
    show h'.get? a = some (PySem.W.methodObj (.ref f) (.ref y))
    exact k a _ (.inl rfl) e
  | ext φ => obtain ⟨p, ⟨o, e⟩, st⟩ := x; exact ⟨st _ _ p fun o q => k _ _ (.inl rfl) q, ⟨o, k _ _ (.inl rfl) e⟩, st⟩
theorem HOk.lt (x : HOk P w H h) (e : H a = some o) : a < h.objs.size := (x a o e).lt
theorem HOk.fresh (x : HOk P w H h) (e : h.objs.size ≤ a) : H a = none := by
  cases q : H a with
  | none => rfl
  | some u => exact absurd (Nat.lt_of_lt_of_le (x.lt q) e) (Nat.lt_irrefl _)
/-- every object of the heap is kept -/
theorem HOk.kept (x : HOk P w H h) (k : ∀ b u, h.get? b = some u → h'.get? b = some u) : HOk P w H h' := fun a o e =>
  (x a o e).stay (fun b u _ q => k b u q) (fun _ q => q) fun _ _ q => q
/-- a new object is laid and tracked -/
theorem HOk.laid (x : HOk P w H h) (k : ∀ b u, h.get? b = some u → h'.get? b = some u) (hp : h.objs.size ≤ a) (new : ObjOk P w (upd H a o) h' a o) : HOk P w (upd H a o) h' := fun b u e => by
  have hn := x.fresh hp
  by_cases hb : b = a
  · subst hb; rw [upd_same] at e; cases e; exact new
  · rw [upd_ne hb] at e
    exact (x b u e).stay (fun c v _ q => k c v q) (fun c q => by rw [upd_ne (ne_of_none q hn)]; exact q) fun c xs q => by rw [upd_ne (ne_of_none q hn)]; exact q
end

/-- what may be read as u: it is u, or a known u -/
def Rd (H : Hp) (a : Addr) (u : HO) : Prop := H a = some u ∨ ∃ o, H a = some (.frz o u)
theorem Rd.ok {P : Program} {w : World} {H : Hp} {h : Heap} {a : Addr} {u : HO} (r : Rd H a u) (x : HOk P w H h) : ObjOk P w H h a u := by
  rcases r with r | ⟨o, r⟩
  · exact x a u r
  · obtain ⟨_, q⟩ := x a _ r
    exact q
/-- what may be written -/
def Mut : Option HO → Prop
  | some (.lst _) => True
  | some (.dK _) => True
  | some (.dT _) => True
  | some (.set _ _) => True
  | some (.ins _ _ _) => True
  | some (.ext _) => True
  | _ => False
section
variable {P : Program} {w : World} {H : Hp} {h h' : Heap} {x e : Addr} {o' : HO}
/-- the object at e is changed: x itself, or the dict of the instance x -/
theorem HOk.write (ok : HOk P w H h) (mu : Mut (H x)) (he : e = x ∨ H e = some (.own x)) (k : ∀ b u, b ≠ e → h.get? b = some u → h'.get? b = some u) (heo : ∃ u, h'.get? e = some u)
    (new : ObjOk P w (upd H x o') h' x o') : HOk P w (upd H x o') h' := fun b u q => by
  have nown : ∀ c y, H c = some (.own y) → c ≠ x := fun c y r z => by subst z; rw [r] at mu; exact mu
  have ntup : ∀ c xs, H c = some (.tup xs) → c ≠ x := fun c xs r z => by subst z; rw [r] at mu; exact mu
  by_cases hb : b = x
  · subst hb; rw [upd_same] at q; cases q; exact new
  · rw [upd_ne hb] at q
    by_cases hbe : b = e
    · have q' : H b = some (.own x) := by
        rcases he with z | z
        · exact absurd (hbe.trans z) hb
        · rw [hbe]; exact z
      rw [q] at q'; cases q'
      obtain ⟨v, hv⟩ := heo
      exact ⟨v, by rw [hbe]; exact hv⟩
    · refine (ok b u q).stay (fun c v hc r => k c v ?_ r) (fun c r => by rw [upd_ne (nown c b r)]; exact r) fun c xs r => by rw [upd_ne (ntup c xs r)]; exact r
      rcases hc with rfl | hc
      · exact hbe
      · rintro rfl
        rcases he with z | z
        · exact nown c b hc z
        · rw [hc] at z; cases z; exact hb rfl
end

/-! ### kept unless tracked; of the frames at fs (the callers') the slots may change (an exception that passes writes there); of the records at ex (iterators) nothing is said -/
structure Un (fs ex : List Addr) (H H' : Hp) (h h' : Heap) : Prop where
  keep : ∀ b o, h.get? b = some o → H b = none → b ∉ fs → b ∉ ex → h'.get? b = some o
  slot : ∀ b o, h.get? b = some o → H b = none → b ∈ fs → b ∉ ex → ∃ sl, h'.get? b = some { o with slots := sl }
  free : ∀ b o, h.get? b = some o → H b = none → b ∉ ex → H' b = none
  there : ∀ b o, h.get? b = some o → b ∉ ex → ∃ o', h'.get? b = some o'
  tups : ∀ b xs, H b = some (.tup xs) → H' b = some (.tup xs)
  frzs : ∀ b o u, H b = some (.frz o u) → H' b = some (.frz o u)
  tbls : ∀ b ps, H b = some (.tbl ps) → ∃ more, H' b = some (.tbl (ps ++ more))
section
variable {fs fs' ex ex' : List Addr} {H H1 H2 : Hp} {h h1 h2 h' : Heap} {a x e : Addr} {o : HO}
theorem Un.any (u : Un fs ex H H1 h h1) {b : Addr} {ob : Obj} (q : h.get? b = some ob) (n : H b = none) (hx : b ∉ ex) : ∃ sl, h1.get? b = some { ob with slots := sl } := by
  by_cases hb : b ∈ fs
  · exact u.slot b ob q n hb hx
  · exact ⟨ob.slots, u.keep b ob q n hb hx⟩
theorem Un.kept (k : ∀ b u, h.get? b = some u → h'.get? b = some u) : Un fs ex H H h h' :=
  ⟨fun b ob q _ _ _ => k b ob q, fun b ob q _ _ _ => ⟨ob.slots, k b ob q⟩, fun _ _ _ n _ => n, fun b ob q _ => ⟨ob, k b ob q⟩, fun _ _ q => q, fun _ _ _ q => q, fun _ ps q => ⟨#[], by rw [q]; simp⟩⟩
theorem Un.refl : Un fs ex H H h h := Un.kept fun _ _ q => q
theorem Un.laid (k : ∀ b u, h.get? b = some u → h'.get? b = some u) (hp : h.objs.size ≤ a) (hn : H a = none) : Un fs ex H (upd H a o) h h' where
  keep := fun b u q _ _ _ => k b u q
  slot := fun b u q _ _ _ => ⟨u.slots, k b u q⟩
  free := fun b u q n _ => by rw [upd_ne (Nat.ne_of_lt (Nat.lt_of_lt_of_le (Heap.lt_size q) hp))]; exact n
  there := fun b u q _ => ⟨u, k b u q⟩
  tups := fun b xs q => by rw [upd_ne (ne_of_none q hn)]; exact q
  frzs := fun b u xs q => by rw [upd_ne (ne_of_none q hn)]; exact q
  tbls := fun b ps q => ⟨#[], by rw [upd_ne (ne_of_none q hn), q]; simp⟩
theorem Un.write (mu : Mut (H x)) (he : e = x ∨ H e = some (.own x)) (k : ∀ b u, b ≠ e → h.get? b = some u → h'.get? b = some u) (heo : ∃ u, h'.get? e = some u) : Un fs ex H (upd H x o) h h' := by
  have hx : ∀ b, H b = none → b ≠ x := fun b n z => by subst z; rw [n] at mu; exact mu
  have hb : ∀ b, H b = none → b ≠ e := fun b n z => by
    subst z
    rcases he with r | r
    · exact hx b n r
    · rw [n] at r; cases r
  have hm : ∀ b u, H b = some u → ¬ Mut (some u) → b ≠ x := fun b u q nm z => by subst z; rw [q] at mu; exact nm mu
  refine ⟨fun b u q n _ _ => k b u (hb b n) q, fun b u q n _ _ => ⟨u.slots, k b u (hb b n) q⟩, fun b u q n _ => by rw [upd_ne (hx b n)]; exact n, fun b u q _ => ?_,
    fun b xs q => by rw [upd_ne (hm b _ q fun z => z)]; exact q, fun b u xs q => by rw [upd_ne (hm b _ q fun z => z)]; exact q, fun b ps q => ⟨#[], by rw [upd_ne (hm b _ q fun z => z), q]; simp⟩⟩
  by_cases hbe : b = e
  · subst hbe; exact heo
  · exact ⟨u, k b u hbe q⟩
end

/-! ### the heap without what is tracked -/
def trk (h : Heap) (H : Hp) : List Addr := (List.range h.objs.size).filter fun a => (H a).isSome
def hidT (h : Heap) (H : Hp) : Heap := PySem.W.hideAll h (trk h H)
theorem hidT_size (h : Heap) (H : Hp) : (hidT h H).objs.size = h.objs.size := PySem.W.hideAll_size _ _
theorem hidT_get {h : Heap} {H : Hp} {b : Addr} {o : Obj} (e : h.get? b = some o) (n : H b = none) : (hidT h H).get? b = some o :=
  PySem.W.hideAll_get _ e fun hm => by
    have q : (H b).isSome = true := (List.mem_filter.mp hm).2
    rw [n] at q; simp at q
theorem of_hidT {h : Heap} {H : Hp} {b : Addr} {o : Obj} (e : (hidT h H).get? b = some o) : h.get? b = some o ∧ H b = none := by
  have e' : h.get? b = some o := PySem.W.of_hideAll (trk h H) e
  refine ⟨e', ?_⟩
  cases q : H b with
  | none => rfl
  | some x =>
    have hm : b ∈ trk h H := List.mem_filter.mpr ⟨List.mem_range.mpr (Heap.lt_size e'), by simp [q]⟩
    have z : (hidT h H).get? b = none := PySem.W.hideAll_none (trk h H) hm
    rw [z] at e; cases e

/-! ### OpenK's ledger, filled with every new object but one -/
def allNews (g h : Heap) (L : Addr) : List (Addr × Obj) := (List.range h.objs.size).filterMap fun a => if a = L ∨ (g.get? a).isSome = true then none else (h.get? a).map fun o => (a, o)
def rest (g h : Heap) (L d : Addr) : List (Addr × Obj) := (allNews g h L).filter fun p => decide (p.1 ≠ d)
end L2

namespace L2
open PySem PySem.Spec PyProof.Rows

/-- the module's facts, over the base: the heap at the law's entry without what is tracked there -/
structure Mod (K : PySem.W.Frag) (mg : Str → Option Value) (base : Heap) : Prop where
  kin : K.In base
  glob : base.Ns mainGlobals mg
  blt : ∃ mb, base.Ns builtinsNs mb ∧ ∀ x : Str, x ≠ "__name__" → mb x = bootBuiltins x
  nolimit : base.NoLimit

/-- the context: a def's body (or a comprehension's block) running. base: fixed through the whole law; s₀, H₀: the entry; outer: the frames whose slots others may change (a def's callers); stack: all frames that run;
   ex: iterators that were made ahead of the entry and are walked here (a comprehension's); fn: the names whose cells were made at the entry (a def: all; a comprehension's block: its own); calm: not within an except suite; pn: pins that every state bears; xe: what is wanted of an exception that leaves the code -/
structure Cx where
  prog : Program
  w : World
  K : PySem.W.Frag
  mg : Str → Option Value
  base : Heap
  A : Around
  N : List Str
  s₀ : Shared
  H₀ : Hp
  env : Env
  outer : List Env
  stack : List Env
  ex : List Addr
  fn : Str → Bool
  calm : Bool
  pn : List (Addr × Obj)
  xe : Value → Shared → Prop
/-- the callers' frames -/
def frs (l : List Env) : List Addr := l.filterMap (·.frame)
abbrev Cx.fs (X : Cx) : List Addr := frs X.outer

def Vis (sc : Scope) (x : Str) : Prop := sc.names.lookup x = some .local ∨ sc.names.lookup x = some .cell ∨ sc.names.lookup x = some .free
def Loc (sc : Scope) (x : Str) : Prop := sc.names.lookup x = some .local ∨ sc.names.lookup x = some .cell
def Look (env : Env) (h : Heap) (m : Str → Option Value) (x : Str) (u : Value) : Prop :=
  (env.kindOf x = some .local ∧ m x = some u) ∨ ((env.kindOf x = some .cell ∨ env.kindOf x = some .free) ∧ ∃ c, env.cells.lookup x = some c ∧ h.IsCell c (some u))

structure Cx.Ok (X : Cx) : Prop where
  mod : Mod X.K X.mg X.base
  kind : X.env.scope.kind = .function
  glob : X.env.globals = mainGlobals
  blt : X.env.builtins = builtinsNs
  above : X.s₀.heap.objs.size ≤ X.env.locals
  inj : ∀ x y c, X.env.cells.lookup x = some c → X.env.cells.lookup y = some c → x = y
  has : ∀ x, (X.env.kindOf x = some .cell ∨ X.env.kindOf x = some .free) → ∃ c, X.env.cells.lookup x = some c
  cab : ∀ x c, X.fn x = true → X.env.cells.lookup x = some c → X.s₀.heap.objs.size ≤ c
  hd : X.calm = true → X.A.handled = none
  frames : X.A.frames = some X.stack
  stk : X.stack = X.outer ∨ (X.stack = X.env :: X.outer ∧ X.env.frame = some X.env.locals)
  exf : ∀ b ∈ X.ex, b ≠ X.env.locals ∧ ∀ x c, X.env.cells.lookup x = some c → c ≠ b
  bs : ∀ b o, X.base.get? b = some o → X.s₀.heap.get? b = some o ∧ X.H₀ b = none
  bsz : X.base.objs.size ≤ X.s₀.heap.objs.size
  noex : ∀ b o, X.base.get? b = some o → b ∉ X.ex
  exfs : ∀ b ∈ X.ex, b ∉ X.fs
  funs : X.s₀.heap.FunFrames X.base X.outer
  frf : ∀ b ∈ X.fs, X.H₀ b = none

structure Inv (X : Cx) (pins : List (Addr × Obj)) (σ : List (Option V)) (H : Hp) (s : Shared) : Prop where
  ok : X.Ok
  os : s.os = X.s₀.os
  bare : AllBare s.gens
  base : Un X.fs X.ex X.H₀ H X.s₀.heap s.heap
  loc : ∃ m, s.heap.Ns X.env.locals m ∧ ∀ (i : Nat) (x : Str) (v : V), X.N[i]? = some x → σ[i]? = some (some v) → Vis X.env.scope x → ∃ u, RelV v u ∧ Look X.env s.heap m x u
  cell : ∀ x c, X.env.cells.lookup x = some c → ∃ v, s.heap.IsCell c v
  free : H X.env.locals = none
  freeC : ∀ x c, X.env.cells.lookup x = some c → H c = none
  pin : ∀ p ∈ X.pn ++ pins, s.heap.get? p.1 = some p.2 ∧ H p.1 = none ∧ p.1 ≠ X.env.locals ∧ p.1 ∉ X.fs ∧ ∀ v, p.2.data ≠ .cell v
  hok : HOk X.prog X.w H s.heap
  len : σ.length = X.N.length

section
variable {X : Cx} {pins : List (Addr × Obj)} {σ : List (Option V)} {H H' : Hp} {s : Shared} {h' : Heap}

theorem Cx.Ok.nofr (ok : X.Ok) {b : Addr} {o : Obj} (e : X.base.get? b = some o) : b ∉ X.fs := fun hb => by
  have := (ok.funs.mem hb).1
  rw [e] at this; cases this
theorem Inv.bs (I : Inv X pins σ H s) : ∀ b o, X.base.get? b = some o → s.heap.get? b = some o ∧ H b = none := fun b o e =>
  ⟨I.base.keep b o (I.ok.bs b o e).1 (I.ok.bs b o e).2 (I.ok.nofr e) (I.ok.noex b o e), I.base.free b o (I.ok.bs b o e).1 (I.ok.bs b o e).2 (I.ok.noex b o e)⟩
theorem Inv.bk (I : Inv X pins σ H s) : ∀ b o, X.base.get? b = some o → s.heap.get? b = some o := fun b o e => (I.bs b o e).1
theorem Inv.mod (I : Inv X pins σ H s) : Mod X.K X.mg X.base := I.ok.mod
theorem Inv.kIn (I : Inv X pins σ H s) : X.K.In s.heap := I.ok.mod.kin.keeps I.bk
theorem Inv.lt (I : Inv X pins σ H s) : X.env.locals < s.heap.objs.size := let ⟨_, hn, _⟩ := I.loc; hn.lt
theorem Inv.sz (I : Inv X pins σ H s) : X.s₀.heap.objs.size ≤ s.heap.objs.size := Nat.le_trans I.ok.above (Nat.le_of_lt I.lt)
theorem Inv.nofs (I : Inv X pins σ H s) {a : Addr} (h : s.heap.objs.size ≤ a) : a ∉ X.fs := fun hb => by
  obtain ⟨_, o, ho, _⟩ := I.ok.funs.mem hb
  exact absurd (Nat.lt_of_lt_of_le (Heap.lt_size ho) (Nat.le_trans I.sz h)) (Nat.lt_irrefl _)
theorem Inv.cne (I : Inv X pins σ H s) : ∀ x c, X.env.cells.lookup x = some c → c ≠ X.env.locals := fun x c e z => by
  obtain ⟨v, o, ho, hd⟩ := I.cell x c e
  obtain ⟨m, ⟨o', es, ep, ho', hd', _⟩, _⟩ := I.loc
  rw [z, ho'] at ho; cases ho; rw [hd'] at hd; cases hd
theorem Inv.funs (I : Inv X pins σ H s) : s.heap.FunFrames X.base X.outer := by
  have all : ∀ (l : List Env), (∀ b ∈ frs l, b ∈ X.fs) → X.s₀.heap.FunFrames X.base l → s.heap.FunFrames X.base l := by
    intro l
    induction l with
    | nil => intro _ _; trivial
    | cons env r ih =>
      intro hs hl
      obtain ⟨hk, ⟨L, o, hf, hn, ho, hd⟩, hr⟩ := hl
      have hL : L ∈ X.fs := hs L (by unfold frs; rw [List.filterMap_cons, hf]; exact List.mem_cons_self)
      obtain ⟨sl, e⟩ := I.base.slot L o ho (I.ok.frf L hL) hL fun z => I.ok.exfs L z hL
      exact ⟨hk, ⟨L, _, hf, hn, e, hd⟩, ih (fun b hb => hs b (by unfold frs; rw [List.filterMap_cons, hf]; exact List.mem_cons_of_mem _ hb)) hr⟩
  exact all X.outer (fun _ hb => hb) I.ok.funs

/-- the frames that run, for a call -/
theorem Inv.stack (I : Inv X pins σ H s) : s.heap.FunFrames X.base X.stack := by
  rcases I.ok.stk with e | ⟨e, hf⟩
  · rw [e]; exact I.funs
  · rw [e]
    obtain ⟨m, hn, _⟩ := I.loc
    refine .cons (by rw [I.ok.kind]; decide) hf hn ?_ I.funs
    exact Heap.get?_none_of_le (Nat.le_trans I.ok.bsz I.ok.above)
theorem Inv.stkSub (I : Inv X pins σ H s) : ∀ b ∈ frs X.stack, b ∈ X.env.locals :: X.fs := fun b hb => by
  rcases I.ok.stk with e | ⟨e, hf⟩
  · rw [e] at hb; exact List.mem_cons_of_mem _ hb
  · rw [e] at hb
    unfold frs at hb
    rw [List.filterMap_cons, hf] at hb
    exact hb
theorem Inv.stkFree (I : Inv X pins σ H s) : ∀ b ∈ frs X.stack, H b = none := fun b hb => by
  rcases List.mem_cons.mp (I.stkSub b hb) with e | hb
  · rw [e]; exact I.free
  · obtain ⟨_, o, ho, _⟩ := I.ok.funs.mem hb
    exact I.base.free b o ho (I.ok.frf b hb) fun z => I.ok.exfs b z hb

/-- THE STEP: the untracked objects but the frame and the records at ch are kept (the callers' frames up to slots), the frame's map is kept, the new abstract heap is held -/
theorem Inv.step {g' : Array GenState} {t' : Nat} {d' : Drawn} {ch : List Addr} (I : Inv X pins σ H s)
    (hch : ∀ b ∈ ch, (b ∈ X.ex ∨ X.s₀.heap.objs.size ≤ b) ∧ b ≠ X.env.locals ∧ (∀ x c, X.env.cells.lookup x = some c → c ≠ b) ∧ ∀ p ∈ X.pn ++ pins, p.1 ≠ b)
    (keep : ∀ b o, b ≠ X.env.locals → b ∉ X.fs → b ∉ ch → s.heap.get? b = some o → H b = none → h'.get? b = some o)
    (slot : ∀ b o, b ≠ X.env.locals → b ∈ X.fs → b ∉ ch → s.heap.get? b = some o → H b = none → ∃ sl, h'.get? b = some { o with slots := sl }) (free : ∀ b o, b ∉ ch → s.heap.get? b = some o → H b = none → H' b = none)
    (there : ∀ b o, b ∉ ch → s.heap.get? b = some o → ∃ o', h'.get? b = some o')
    (tups : ∀ b xs, H b = some (.tup xs) → H' b = some (.tup xs)) (frzs : ∀ b o u, H b = some (.frz o u) → H' b = some (.frz o u)) (tbls : ∀ b ps, H b = some (.tbl ps) → ∃ more, H' b = some (.tbl (ps ++ more)))
    (ns : ∀ m, s.heap.Ns X.env.locals m → h'.Ns X.env.locals m) (hok : HOk X.prog X.w H' h') (hg : AllBare g') :
    Inv X pins σ H' { s with heap := h', gens := g', drawn := d', toks := t' } := by
  have neL : ∀ b o, X.s₀.heap.get? b = some o → b ≠ X.env.locals := fun b o e => Nat.ne_of_lt (Nat.lt_of_lt_of_le (Heap.lt_size e) I.ok.above)
  have neC : ∀ b o, X.s₀.heap.get? b = some o → b ∉ X.ex → b ∉ ch := fun b o e hx hb => by
    rcases (hch b hb).1 with z | z
    · exact hx z
    · exact absurd (Nat.lt_of_lt_of_le (Heap.lt_size e) z) (Nat.lt_irrefl _)
  have cellK : ∀ x c, X.env.cells.lookup x = some c → ∀ v, s.heap.IsCell c v → h'.IsCell c v := fun x c e v ⟨o, ho, hd⟩ => by
    have nch : c ∉ ch := fun z => (hch c z).2.2.1 x c e rfl
    by_cases hc : c ∈ X.fs
    · obtain ⟨sl, q⟩ := slot c o (I.cne x c e) hc nch ho (I.freeC x c e)
      exact ⟨_, q, hd⟩
    · exact ⟨o, keep c o (I.cne x c e) hc nch ho (I.freeC x c e), hd⟩
  refine ⟨I.ok, I.os, hg, ⟨fun b o e n hb hx => ?_, fun b o e n hb hx => ?_, fun b o e n hx => ?_, fun b o e hx => ?_, fun b xs e => tups b xs (I.base.tups b xs e), fun b o xs e => frzs b o xs (I.base.frzs b o xs e), fun b ps e => ?_⟩, ?_, fun x c e => ?_, ?_, fun x c e => ?_, fun p hp => ?_, hok, I.len⟩
  · exact keep b o (neL b o e) hb (neC b o e hx) (I.base.keep b o e n hb hx) (I.base.free b o e n hx)
  · obtain ⟨sl, e1⟩ := I.base.slot b o e n hb hx
    obtain ⟨sl', e2⟩ := slot b _ (neL b o e) hb (neC b o e hx) e1 (I.base.free b o e n hx)
    exact ⟨sl', e2⟩
  · obtain ⟨o', e1⟩ := I.base.there b o e hx
    exact free b o' (neC b o e hx) e1 (I.base.free b o e n hx)
  · obtain ⟨o', e1⟩ := I.base.there b o e hx
    exact there b o' (neC b o e hx) e1
  · obtain ⟨m1, e1⟩ := I.base.tbls b ps e
    obtain ⟨m2, e2⟩ := tbls b _ e1
    exact ⟨m1 ++ m2, by rw [e2, Array.append_assoc]⟩
  · obtain ⟨m, hn, hl⟩ := I.loc
    refine ⟨m, ns m hn, fun i x v e1 e2 e3 => ?_⟩
    obtain ⟨u, r, l⟩ := hl i x v e1 e2 e3
    refine ⟨u, r, ?_⟩
    rcases l with l | ⟨k, c, e, z⟩
    · exact .inl l
    · exact .inr ⟨k, c, e, cellK x c e _ z⟩
  · obtain ⟨v, z⟩ := I.cell x c e
    exact ⟨v, cellK x c e v z⟩
  · obtain ⟨m, ⟨o, _, _, ho, _⟩, _⟩ := I.loc
    exact free _ o (fun z => (hch _ z).2.1 rfl) ho I.free
  · obtain ⟨v, o, ho, hd⟩ := I.cell x c e
    exact free c o (fun z => (hch c z).2.2.1 x c e rfl) ho (I.freeC x c e)
  · obtain ⟨e, n, ne, nf, d⟩ := I.pin p hp
    have nch : p.1 ∉ ch := fun z => (hch p.1 z).2.2.2 p hp rfl
    exact ⟨keep p.1 p.2 ne nf nch e n, free p.1 p.2 nch e n, ne, nf, d⟩
/-- .. where the frame's own object is kept too -/
theorem Inv.un {t' : Nat} (I : Inv X pins σ H s) (u : Un X.fs [] H H' s.heap h') (hok : HOk X.prog X.w H' h') : Inv X pins σ H' { s with heap := h', toks := t' } := by
  obtain ⟨m, ⟨o, es, ep, ho, r⟩, _⟩ := id I.loc
  obtain ⟨sl, hL⟩ := u.any ho I.free (by simp)
  exact I.step (g' := s.gens) (d' := s.drawn) (ch := []) (fun _ z => nomatch z) (fun b o _ hb _ e n => u.keep b o e n hb (by simp)) (fun b o _ hb _ e n => u.slot b o e n hb (by simp)) (fun b o _ e n => u.free b o e n (by simp)) (fun b o _ e => u.there b o e (by simp)) u.tups u.frzs u.tbls (fun m' hm => by
    obtain ⟨o', es', ep', ho', r'⟩ := hm
    rw [ho] at ho'; cases ho'
    exact ⟨_, es', ep', hL, r'⟩) hok I.bare
/-- behind a call (or a comprehension's block): the slots of this frame may have changed too, the records at ch may have turned -/
theorem Inv.call {g' : Array GenState} {t' : Nat} {d' : Drawn} {ch : List Addr} (I : Inv X pins σ H s) (u : Un (frs X.stack) ch H H' s.heap h') (hok : HOk X.prog X.w H' h') (hg : AllBare g')
    (hch : ∀ b ∈ ch, (b ∈ X.ex ∨ X.s₀.heap.objs.size ≤ b) ∧ b ≠ X.env.locals ∧ (∀ x c, X.env.cells.lookup x = some c → c ≠ b) ∧ ∀ p ∈ X.pn ++ pins, p.1 ≠ b) :
    Inv X pins σ H' { s with heap := h', gens := g', drawn := d', toks := t' } := by
  obtain ⟨m, ⟨o, es, ep, ho, r⟩, _⟩ := id I.loc
  obtain ⟨sl, hL⟩ := u.any ho I.free fun z => (hch _ z).2.1 rfl
  exact I.step (ch := ch) hch (fun b o hL hb hc e n => u.keep b o e n (fun z => (List.mem_cons.mp (I.stkSub b z)).elim hL hb) hc) (fun b o _ _ hc e n => u.any e n hc) (fun b o hc e n => u.free b o e n hc) (fun b o hc e => u.there b o e hc) u.tups u.frzs u.tbls (fun m' hm => by
    obtain ⟨o', es', ep', ho', r'⟩ := hm
    rw [ho] at ho'; cases ho'
    exact ⟨_, es', ep', hL, r'⟩) hok hg
/-- an untracked record of ours (an iterator) has turned -/
theorem Inv.turned {t' : Nat} {it : Addr} (I : Inv X pins σ H s) (k : ∀ b o, b ≠ it → s.heap.get? b = some o → h'.get? b = some o) (hn : H it = none) (hL : it ≠ X.env.locals)
    (h1 : it ∈ X.ex ∨ X.s₀.heap.objs.size ≤ it) (h2 : ∀ x c, X.env.cells.lookup x = some c → c ≠ it) (h3 : ∀ p ∈ X.pn ++ pins, p.1 ≠ it) : Inv X pins σ H { s with heap := h', toks := t' } := by
  have nit : ∀ b u, H b = some u → b ≠ it := fun b u e z => by rw [z, hn] at e; cases e
  refine I.step (g' := s.gens) (d' := s.drawn) (ch := [it]) (fun b hb => ?_) (fun b o _ _ hc e _ => k b o (fun z => hc (by simp [z])) e) (fun b o _ _ hc e _ => ⟨o.slots, k b o (fun z => hc (by simp [z])) e⟩) (fun _ _ _ _ n => n)
    (fun b o hc e => ⟨o, k b o (fun z => hc (by simp [z])) e⟩) (fun _ _ e => e) (fun _ _ _ e => e) (fun b ps e => ⟨#[], by rw [e]; simp⟩) (fun m hm => ?_) (fun b u e => ?_) I.bare
  · have e : b = it := by simpa using hb
    subst e
    exact ⟨h1, hL, h2, h3⟩
  · obtain ⟨o, es, ep, ho, r⟩ := hm
    exact ⟨o, es, ep, k _ o (Ne.symm hL) ho, r⟩
  · refine (I.hok b u e).stay (fun c v hc q => k c v ?_ q) (fun _ q => q) fun _ _ q => q
    rcases hc with z | z
    · rw [z]; exact nit b u e
    · exact nit c _ z
theorem Inv.tok (I : Inv X pins σ H s) (t : Nat) : Inv X pins σ H { s with toks := t } := I.un (h' := s.heap) (t' := t) Un.refl I.hok
/-- all objects kept -/
theorem Inv.kept {t' : Nat} (I : Inv X pins σ H s) (k : ∀ b u, s.heap.get? b = some u → h'.get? b = some u) : Inv X pins σ H { s with heap := h', toks := t' } := I.un (Un.kept k) (I.hok.kept k)
/-- a new object laid and tracked -/
theorem Inv.laid {a : Addr} {o : HO} {t' : Nat} (I : Inv X pins σ H s) (k : ∀ b u, s.heap.get? b = some u → h'.get? b = some u) (hp : s.heap.objs.size ≤ a) (new : ObjOk X.prog X.w (upd H a o) h' a o) :
    Inv X pins σ (upd H a o) { s with heap := h', toks := t' } := I.un (Un.laid k hp (I.hok.fresh hp)) (I.hok.laid k hp new)
/-- an object written -/
theorem Inv.write {x e : Addr} {o : HO} {t' : Nat} (I : Inv X pins σ H s) (mu : Mut (H x)) (he : e = x ∨ H e = some (.own x)) (k : ∀ b u, b ≠ e → s.heap.get? b = some u → h'.get? b = some u) (heo : ∃ u, h'.get? e = some u)
    (new : ObjOk X.prog X.w (upd H x o) h' x o) : Inv X pins σ (upd H x o) { s with heap := h', toks := t' } := I.un (Un.write mu he k heo) (I.hok.write mu he k heo new)
theorem Inv.pins_of {pins' : List (Addr × Obj)} (I : Inv X pins σ H s) (h : ∀ p ∈ pins', s.heap.get? p.1 = some p.2 ∧ H p.1 = none ∧ p.1 ≠ X.env.locals ∧ p.1 ∉ X.fs ∧ ∀ v, p.2.data ≠ .cell v) : Inv X pins' σ H s :=
  ⟨I.ok, I.os, I.bare, I.base, I.loc, I.cell, I.free, I.freeC, fun p hp => (List.mem_append.mp hp).elim (fun z => I.pin p (List.mem_append_left _ z)) (h p), I.hok, I.len⟩

theorem nodup_ix {N : List Str} (hN : N.Nodup) {i j : Nat} {x : Str} (a : N[i]? = some x) (b : N[j]? = some x) : i = j := by
  obtain ⟨h1, e1⟩ := List.getElem?_eq_some_iff.mp a
  obtain ⟨h2, e2⟩ := List.getElem?_eq_some_iff.mp b
  exact (List.getElem_inj hN).mp (e1.trans e2.symm)

/-- a name is stored; what changed -/
theorem store_ok2 {M : Model} {A : Around} {E : Value → Shared → Prop} {i : Nat} {x : Str} {v : V} {u : Value} {Q : Unit → Shared → Prop} (I : Inv X pins σ H s) (hN : X.N.Nodup) (hi : X.N[i]? = some x) (hx : Loc X.env.scope x) (r : RelV v u)
    (h : ∀ s', Inv X pins (σ.set i (some v)) H s' → (∃ a, Heap.SameBut a s.heap s'.heap ∧ (a = X.env.locals ∨ X.env.cells.lookup x = some a)) → Q () s') (hf : X.fn x = true ∨ X.env.scope.names.lookup x = some .local := by first | exact .inl rfl | exact .inr rfl | assumption) : wpAny M A (storeName X.env x u) Q E s := by
  obtain ⟨m, hn, hl⟩ := id I.loc
  have hcls : (X.env.scope.kind == .class || (X.env.scope.kind == .module && X.env.locals != X.env.globals)) = false := by rw [I.ok.kind]; rfl
  have hiσ : i < σ.length := by rw [I.len]; exact (List.getElem?_eq_some_iff.mp hi).1
  have cne := I.cne
  have tracked : ∀ {a : Addr} {h' : Heap}, (∃ o, s.heap.get? a = some o ∧ H a = none) → Heap.SameBut a s.heap h' → HOk X.prog X.w H h' := fun {a h'} ha hs b ob e => by
    obtain ⟨_, _, hfree⟩ := ha
    refine (I.hok b ob e).stay (fun c w' hc q => (hs.2 c ?_).trans q) (fun _ q => q) fun _ _ q => q
    rintro rfl
    rcases hc with rfl | hc
    · rw [hfree] at e; cases e
    · rw [hfree] at hc; cases hc
  rcases hx with hk | hk
  · refine wpAny_storeName_local hk hn (fun h' hn' hs => ?_) hcls
    obtain ⟨oL, _, _, hoL, _⟩ := id hn
    refine h _ ⟨I.ok, I.os, I.bare, ⟨fun b o e n hb hx => ?_, fun b o e n hb hx => ?_, I.base.free, fun b o e hx => ?_, I.base.tups, I.base.frzs, I.base.tbls⟩, ⟨_, hn', fun j y v' e1 e2 e3 => ?_⟩, fun y c e => ?_, I.free, I.freeC, fun p hp => ?_, tracked ⟨oL, hoL, I.free⟩ hs, by simpa using I.len⟩ ⟨_, hs, .inl rfl⟩
    · exact (hs.2 b (Nat.ne_of_lt (Nat.lt_of_lt_of_le (Heap.lt_size e) I.ok.above))).trans (I.base.keep b o e n hb hx)
    · obtain ⟨sl, e1⟩ := I.base.slot b o e n hb hx
      exact ⟨sl, (hs.2 b (Nat.ne_of_lt (Nat.lt_of_lt_of_le (Heap.lt_size e) I.ok.above))).trans e1⟩
    · obtain ⟨o', e1⟩ := I.base.there b o e hx
      exact ⟨o', (hs.2 b (Nat.ne_of_lt (Nat.lt_of_lt_of_le (Heap.lt_size e) I.ok.above))).trans e1⟩
    · by_cases hj : j = i
      · subst hj
        rw [hi] at e1; cases e1
        rw [List.getElem?_set_self hiσ] at e2
        cases e2
        exact ⟨u, r, .inl ⟨hk, by simp⟩⟩
      · rw [List.getElem?_set_ne (Ne.symm hj)] at e2
        obtain ⟨u', r', q⟩ := hl j y v' e1 e2 e3
        refine ⟨u', r', ?_⟩
        rcases q with ⟨k, e⟩ | ⟨k, c, e, z⟩
        · refine .inl ⟨k, ?_⟩
          have : y ≠ x := fun e => hj (nodup_ix hN e1 (e ▸ hi))
          simp [this, e]
        · exact .inr ⟨k, c, e, z.sameBut hs (cne y c e)⟩
    · obtain ⟨w', z⟩ := I.cell y c e
      exact ⟨w', z.sameBut hs (cne y c e)⟩
    · obtain ⟨e, n, ne, nf, d⟩ := I.pin p hp
      exact ⟨(hs.2 p.1 ne).trans e, n, ne, nf, d⟩
  · have hfn : X.fn x = true := by
      rcases hf with z | z
      · exact z
      · rw [z] at hk; cases hk
    obtain ⟨c, hc⟩ := I.ok.has x (.inl hk)
    obtain ⟨w', z⟩ := I.cell x c hc
    refine wpAny_storeName_cell I.ok.kind hk hc z (fun h' hc' hs => ?_)
    obtain ⟨oc, hoc, hocd⟩ := id z
    refine h { s with heap := h' } ⟨I.ok, I.os, I.bare, ⟨fun b o e n hb hx => ?_, fun b o e n hb hx => ?_, I.base.free, fun b o e hx => ?_, I.base.tups, I.base.frzs, I.base.tbls⟩, ⟨m, hn.sameBut hs (Ne.symm (cne x c hc)), fun j y v' e1 e2 e3 => ?_⟩, fun y c' e => ?_, I.free, I.freeC, fun p hp => ?_, tracked ⟨oc, hoc, I.freeC x c hc⟩ hs, by simpa using I.len⟩ ⟨c, hs, .inr hc⟩
    · exact (hs.2 b (Nat.ne_of_lt (Nat.lt_of_lt_of_le (Heap.lt_size e) (I.ok.cab x c hfn hc)))).trans (I.base.keep b o e n hb hx)
    · obtain ⟨sl, e1⟩ := I.base.slot b o e n hb hx
      exact ⟨sl, (hs.2 b (Nat.ne_of_lt (Nat.lt_of_lt_of_le (Heap.lt_size e) (I.ok.cab x c hfn hc)))).trans e1⟩
    · obtain ⟨o', e1⟩ := I.base.there b o e hx
      exact ⟨o', (hs.2 b (Nat.ne_of_lt (Nat.lt_of_lt_of_le (Heap.lt_size e) (I.ok.cab x c hfn hc)))).trans e1⟩
    · by_cases hj : j = i
      · subst hj
        rw [hi] at e1; cases e1
        rw [List.getElem?_set_self hiσ] at e2
        cases e2
        exact ⟨u, r, .inr ⟨.inl hk, c, hc, hc'⟩⟩
      · rw [List.getElem?_set_ne (Ne.symm hj)] at e2
        obtain ⟨u', r', q⟩ := hl j y v' e1 e2 e3
        refine ⟨u', r', ?_⟩
        rcases q with q | ⟨k, c', e, z'⟩
        · exact .inl q
        · refine .inr ⟨k, c', e, z'.sameBut hs ?_⟩
          rintro rfl
          exact hj (nodup_ix hN e1 (I.ok.inj _ _ _ e hc ▸ hi))
    · by_cases hcc : c' = c
      · subst hcc; exact ⟨_, hc'⟩
      · obtain ⟨w2, z2⟩ := I.cell y c' e
        exact ⟨w2, z2.sameBut hs hcc⟩
    · obtain ⟨e, n, ne, nf, d⟩ := I.pin p hp
      refine ⟨(hs.2 p.1 ?_).trans e, n, ne, nf, d⟩
      intro q
      rw [q, hoc] at e
      have q' : oc = p.2 := Option.some.inj e
      exact d w' (by rw [← q']; exact hocd)
theorem store_ok {M : Model} {A : Around} {E : Value → Shared → Prop} {i : Nat} {x : Str} {v : V} {u : Value} {Q : Unit → Shared → Prop} (I : Inv X pins σ H s) (hN : X.N.Nodup) (hi : X.N[i]? = some x) (hx : Loc X.env.scope x) (r : RelV v u)
    (h : ∀ s', Inv X pins (σ.set i (some v)) H s' → Q () s') (hf : X.fn x = true ∨ X.env.scope.names.lookup x = some .local := by first | exact .inl rfl | exact .inr rfl | assumption) : wpAny M A (storeName X.env x u) Q E s :=
  store_ok2 I hN hi hx r (fun s' I' _ => h s' I') hf
/-- behind a call or a block, the state as it is -/
theorem Inv.call' {s' : Shared} {ch : List Addr} (I : Inv X pins σ H s) (ho : s'.os = s.os) (u : Un (frs X.stack) ch H H' s.heap s'.heap) (hok : HOk X.prog X.w H' s'.heap) (hg : AllBare s'.gens)
    (hch : ∀ b ∈ ch, (b ∈ X.ex ∨ X.s₀.heap.objs.size ≤ b) ∧ b ≠ X.env.locals ∧ (∀ x c, X.env.cells.lookup x = some c → c ≠ b) ∧ ∀ p ∈ X.pn ++ pins, p.1 ≠ b) : Inv X pins σ H' s' := by
  obtain ⟨h', g', d', t', o'⟩ := s'
  have e : o' = s.os := ho
  subst e
  exact I.call (g' := g') (t' := t') (d' := d') u hok hg hch
end

/-! ### the judgements -/
/-- an exception: its class, its own dict's address (where it has one), the abstract heap behind it -/
abbrev XK := Value → Option Addr → Hp → Prop
abbrev St := List (Option V)
abbrev VK := V → Hp → Prop
/-- an expression's reading; a test's; an argument list's -/
abbrev TE := St → Hp → VK → Prop
abbrev TT := St → Hp → (Bool → Hp → Prop) → Prop
abbrev TA := St → Hp → (List V → Hp → Prop) → Prop
/-- what is wanted behind a statement -/
structure Ends where
  nx : St → Hp → Prop
  rt : VK
  bk : St → Hp → Prop := fun _ _ => False
  ct : St → Hp → Prop := fun _ _ => False
abbrev TS := Ends → St → Hp → Prop

def EP (X : Cx) (pins : List (Addr × Obj)) (σ : St) (Q : VK) (u : Value) (s' : Shared) : Prop := ∃ v H', Inv X pins σ H' s' ∧ RelV v u ∧ Q v H'
def TP (X : Cx) (pins : List (Addr × Obj)) (σ : St) (Q : Bool → Hp → Prop) (b : Bool) (s' : Shared) : Prop := ∃ H', Inv X pins σ H' s' ∧ Q b H'
def AP (X : Cx) (pins : List (Addr × Obj)) (σ : St) (Q : List V → Hp → Prop) (us : List Value) (s' : Shared) : Prop := ∃ vs H', Inv X pins σ H' s' ∧ Vals vs us ∧ Q vs H'
def SP (X : Cx) (pins : List (Addr × Obj)) (D : Ends) (f : Flow) (s' : Shared) : Prop :=
  match f with
  | .next => ∃ σ' H', Inv X pins σ' H' s' ∧ D.nx σ' H'
  | .brk => ∃ σ' H', Inv X pins σ' H' s' ∧ D.bk σ' H'
  | .cont => ∃ σ' H', Inv X pins σ' H' s' ∧ D.ct σ' H'
  | .ret u => ∃ v σ' H', Inv X pins σ' H' s' ∧ RelV v u ∧ D.rt v H'

def PE (X : Cx) (e : Expr) (t : TE) : Prop :=
  ∀ (pins : List (Addr × Obj)) (s : Shared) (σ : St) (H : Hp) (Q : VK), Inv X pins σ H s → t σ H Q → wpAny (model X.prog X.w) X.A (eval e X.env) (EP X pins σ Q) X.xe s
def PT (X : Cx) (e : Expr) (t : TT) : Prop :=
  ∀ (pins : List (Addr × Obj)) (s : Shared) (σ : St) (H : Hp) (Q : Bool → Hp → Prop), Inv X pins σ H s → t σ H Q → wpAny (model X.prog X.w) X.A (isTrue e X.env (eval e X.env)) (TP X pins σ Q) X.xe s
/-- a test whatever its 'whole' is (and, or) -/
def PW (X : Cx) (e : Expr) (t : TT) : Prop :=
  ∀ (whole : Sem Value) (pins : List (Addr × Obj)) (s : Shared) (σ : St) (H : Hp) (Q : Bool → Hp → Prop), Inv X pins σ H s → t σ H Q → wpAny (model X.prog X.w) X.A (isTrue e X.env whole) (TP X pins σ Q) X.xe s
theorem PW.pt {X : Cx} {e : Expr} {t : TT} (h : PW X e t) : PT X e t := h _
/-- an argument list (no star), from the left -/
def PA (X : Cx) (es : List Expr) (t : TA) : Prop :=
  ∀ (pos : Pos) (pins : List (Addr × Obj)) (s : Shared) (σ : St) (H : Hp) (Q : List V → Hp → Prop), Inv X pins σ H s → t σ H Q → wpAny (model X.prog X.w) X.A (spliced (backTo pos (starEach es X.env))) (AP X pins σ Q) X.xe s
def PS (X : Cx) (st : Stmt) (t : TS) : Prop :=
  ∀ (pins : List (Addr × Obj)) (s : Shared) (σ : St) (H : Hp) (D : Ends), Inv X pins σ H s → t D σ H → wpAny (model X.prog X.w) X.A (exec st X.env) (SP X pins D) X.xe s
def PSs (X : Cx) (st : List Stmt) (t : TS) : Prop :=
  ∀ (pins : List (Addr × Obj)) (s : Shared) (σ : St) (H : Hp) (D : Ends), Inv X pins σ H s → t D σ H → wpAny (model X.prog X.w) X.A (execs st X.env) (SP X pins D) X.xe s
/-- weaken the end -/
theorem thn {α : Type} {t : Sem α} {Q Q' : α → Shared → Prop} {M : Model} {A : Around} {E : Value → Shared → Prop} {s : Shared} (h : wpAny M A t Q E s) (hQ : ∀ a s, Q a s → Q' a s) : wpAny M A t Q' E s := wpAny_mono h hQ fun _ _ x => x
end L2

namespace L2
open PySem PySem.Spec PyProof.Rows
section
variable {X : Cx}

/-! ### names and constants -/
def tVar (i : Nat) : TE := fun σ H Q => ∃ v, σ[i]? = some (some v) ∧ Q v H
def tC (v : V) : TE := fun _ H Q => Q v H
theorem pe_var {i : Nat} {x : Str} {pos : Pos} (hN : X.N[i]? = some x) (hv : Vis X.env.scope x) (hd : (x == ("__debug__" : Str)) = false := by decide) (hcd : (x == ("__classdict__" : Str)) = false := by decide) : PE X (.Name x pos) (tVar i) := by
  intro pins s σ H Q I h
  obtain ⟨v, e, h⟩ := h
  obtain ⟨m, hn, hl⟩ := I.loc
  obtain ⟨u, r, l⟩ := hl i x v hN e hv
  have fin : EP X pins σ Q u s := ⟨v, H, I, r, h⟩
  rcases l with ⟨hk, hm⟩ | ⟨hk, c, hc, hcell⟩
  · exact wpAny_Name (wpAny_loadName_local I.ok.kind hk hn hm fin) hd
  · rcases hk with hk | hk
    · exact wpAny_Name (wpAny_loadName_cell I.ok.kind hk hc hcell fin) hd
    · exact wpAny_Name (wpAny_loadName_free I.ok.kind hk hc hcell fin hcd) hd
theorem pe_int {i j pos} : PE X (.Constant (.int i) j pos) (tC (.int i)) := fun _ _ _ H _ I h => wpAny_Constant_int ⟨.int i, H, I.tok _, ⟨_, rfl⟩, h⟩
theorem pe_bl {b j pos} : PE X (.Constant (.bool b) j pos) (tC (.bl b)) := fun _ _ _ H _ I h => Constant_bool ⟨.bl b, H, I, rfl, h⟩
/-- a global name of the def -/
def Gl (X : Cx) (x : Str) : Prop := X.env.kindOf x = some .globalImplicit
theorem ld_glob {E : Value → Shared → Prop} {pins : List (Addr × Obj)} {s : Shared} {σ : St} {H : Hp} {x : Str} {u : Value} {pos : Pos} {Q : Value → Shared → Prop} (I : Inv X pins σ H s) (hg : Gl X x) (hm : X.mg x = some u) (h : Q u s)
    (hd : (x == ("__debug__" : Str)) = false := by decide) : wpAny (model X.prog X.w) X.A (eval (.Name x pos) X.env) Q E s :=
  Calls.Name_function_global I.ok.kind hg (Calls.loadGlobal_global (by rw [I.ok.glob]; exact I.mod.glob.keeps I.bk) hm h) hd
theorem ld_blt {E : Value → Shared → Prop} {pins : List (Addr × Obj)} {s : Shared} {σ : St} {H : Hp} {x : Str} {u : Value} {pos : Pos} {Q : Value → Shared → Prop} (I : Inv X pins σ H s) (hg : Gl X x) (hm : X.mg x = none) (hv : bootBuiltins x = some u) (h : Q u s)
    (hn : x ≠ "__name__" := by decide) (hd : (x == ("__debug__" : Str)) = false := by decide) : wpAny (model X.prog X.w) X.A (eval (.Name x pos) X.env) Q E s := by
  obtain ⟨mb, h1, h2⟩ := I.mod.blt
  exact Calls.Name_function_global I.ok.kind hg (Calls.loadGlobal_builtin (by rw [I.ok.glob]; exact I.mod.glob.keeps I.bk) hm (by rw [I.ok.blt]; exact h1.keeps I.bk) ((h2 x hn).trans hv) h) hd
/-- a module's constant, a class, a function, as a value -/
theorem pe_glob {x : Str} {v : V} {u : Value} {pos : Pos} (hg : Gl X x) (hm : X.mg x = some u) (r : RelV v u) (hd : (x == ("__debug__" : Str)) = false := by decide) : PE X (.Name x pos) (tC v) :=
  fun _ _ _ H _ I h => ld_glob I hg hm ⟨v, H, I, r, h⟩ hd
theorem pe_bltn {x : Str} {v : V} {u : Value} {pos : Pos} (hg : Gl X x) (hm : X.mg x = none) (hv : bootBuiltins x = some u) (r : RelV v u) (hn : x ≠ "__name__" := by decide) (hd : (x == ("__debug__" : Str)) = false := by decide) : PE X (.Name x pos) (tC v) :=
  fun _ _ _ H _ I h => ld_blt I hg hm hv ⟨v, H, I, r, h⟩ hn hd

/-! ### arithmetic -/
variable {a b : Expr} {ta tb : TE} {pos : Pos}
/-! ### comparisons -/
/-- a comparison as a value, as a test -/
def tB (t : TE) : TT := fun σ H Q => t σ H fun x H1 => ∃ c, x = .bl c ∧ Q c H1
/-- an expression whose value is a bool, as a test -/
theorem pt_val {e : Expr} {t : TE} (h : PE X e t) (he : ∀ whole, isTrue e X.env whole = (do let v ← whole; standAt e.pos; holding [v] (truthy v)) := by intro _; rfl) : PT X e (tB t) := by
  intro pins s σ H Q I hw
  refine isTrue_plain (thn (h pins s σ H _ I hw) fun v s1 ⟨x, H1, I1, r1, q1⟩ => ?_) (he _)
  obtain ⟨d, rfl, q⟩ := q1
  cases r1
  exact wpAny_truthy_bool ⟨H1, I1, q⟩

/-! ### and, or, not -/
variable {tA tB' : TT} {rest : List Expr}
def tAnd (t u : TT) : TT := fun σ H Q => t σ H fun c H1 => if c = true then u σ H1 Q else Q false H1
def tOr (t u : TT) : TT := fun σ H Q => t σ H fun c H1 => if c = true then Q true H1 else u σ H1 Q
def tNot (t : TT) : TT := fun σ H Q => t σ H fun c H1 => Q (!c) H1
theorem pw_and1 (ha : PT X a tA) : PW X (.BoolOp .And [a] pos) tA := by
  intro wh pins s σ H Q I h
  refine isTrue_and (thn (ha pins s σ H Q I h) fun c s1 e => ?_)
  cases c with
  | true => exact isTrue_and_nil e
  | false => exact e
theorem pw_or1 (ha : PT X a tA) : PW X (.BoolOp .Or [a] pos) tA := by
  intro wh pins s σ H Q I h
  refine isTrue_or (thn (ha pins s σ H Q I h) fun c s1 e => ?_)
  cases c with
  | false => exact isTrue_or_nil e
  | true => exact e
theorem pw_and (ha : PT X a tA) (hb : PW X (.BoolOp .And (b :: rest) pos) tB') : PW X (.BoolOp .And (a :: b :: rest) pos) (tAnd tA tB') := by
  intro wh pins s σ H Q I h
  refine isTrue_and (thn (ha pins s σ H _ I h) fun c s1 ⟨H1, I1, q1⟩ => ?_)
  cases c with
  | true => exact hb wh pins s1 σ H1 Q I1 q1
  | false => exact ⟨H1, I1, q1⟩
theorem pw_or (ha : PT X a tA) (hb : PW X (.BoolOp .Or (b :: rest) pos) tB') : PW X (.BoolOp .Or (a :: b :: rest) pos) (tOr tA tB') := by
  intro wh pins s σ H Q I h
  refine isTrue_or (thn (ha pins s σ H _ I h) fun c s1 ⟨H1, I1, q1⟩ => ?_)
  cases c with
  | true => exact ⟨H1, I1, q1⟩
  | false => exact hb wh pins s1 σ H1 Q I1 q1
theorem pt_not (ha : PT X a tA) : PT X (.UnaryOp .Not a pos) (tNot tA) := by
  intro pins s σ H Q I h
  exact isTrue_not (ha pins s σ H (fun c H1 => Q (!c) H1) I h)
/-- .. as values (bools) -/
def tAndV (ta tb : TE) : TE := fun σ H Q => ta σ H fun x H1 => ∃ c, x = .bl c ∧ if c = true then tb σ H1 Q else Q (.bl false) H1
def tNotV (ta : TE) : TE := fun σ H Q => ta σ H fun x H1 => ∃ c, x = .bl c ∧ Q (.bl (!c)) H1
theorem pe_one {op} {t : TE} (h : PE X a t) : PE X (.BoolOp op [a] pos) t := fun pins s σ H Q I hw => BoolOp_one (h pins s σ H Q I hw)
theorem pe_and (ha : PE X a ta) (hb : PE X (.BoolOp .And (b :: rest) pos) tb) : PE X (.BoolOp .And (a :: b :: rest) pos) (tAndV ta tb) := by
  intro pins s σ H Q I h
  refine BoolOp_and (thn (ha pins s σ H _ I h) fun v s1 ⟨x, H1, I1, r1, q1⟩ => ?_)
  obtain ⟨c, rfl, q1⟩ := q1
  cases r1
  refine wpAny_truthy_bool ?_
  cases c with
  | true => exact hb pins s1 σ H1 Q I1 q1
  | false => exact ⟨.bl false, H1, I1, rfl, q1⟩
theorem pe_not (ha : PE X a ta) : PE X (.UnaryOp .Not a pos) (tNotV ta) := by
  intro pins s σ H Q I h
  refine UnaryOp_ (thn (ha pins s σ H _ I h) fun v s1 ⟨x, H1, I1, r1, q1⟩ => ?_)
  obtain ⟨c, rfl, q1⟩ := q1
  cases r1
  exact not_of (wpAny_truthy_bool ⟨.bl (!c), H1, I1, rfl, q1⟩)
end
end L2

namespace L2
open PySem PySem.Spec PyProof.Rows

/-! ### a list, a tuple that is read: tracked, frozen, or an object of the module -/
def SqL (K : PySem.W.Frag) (H : Hp) (a : Addr) (xs : List V) : Prop :=
  Rd H a (.lst xs) ∨
    ∃ (o : Obj) (its : Array Value) (n : Nat), K.lookup a = some o ∧ o.cls = .type "list" ∧ o.dict = none ∧ o.data = .seq its n ∧ its.size ≤ sizeLine ∧ Vals xs its.toList
def SqT (K : PySem.W.Frag) (H : Hp) (a : Addr) (xs : List V) : Prop :=
  Rd H a (.tup xs) ∨
    ∃ (o : Obj) (its : Array Value) (n : Nat), K.lookup a = some o ∧ o.cls = .type "tuple" ∧ o.data = .seq its n ∧ its.size ≤ sizeLine ∧ Vals xs its.toList
def absV : Value → Option V
  | .none => some .non
  | .bool b => some (.bl b)
  | .int i _ => some (.int i)
  | .str x _ => some (.str x)
  | .bytes b _ => some (.byt b)
  | .float b _ => some (.flt b)
  | .ref a => some (.ref a)
  | .type n => some (.ty n)
  | _ => none
theorem RelV.abs {x : V} {u : Value} (r : RelV x u) : absV u = some x := by
  cases x with
  | non => cases r; rfl
  | bl _ => cases r; rfl
  | int _ => obtain ⟨t, rfl⟩ := r; rfl
  | str _ => obtain ⟨t, rfl⟩ := r; rfl
  | byt _ => obtain ⟨t, rfl⟩ := r; rfl
  | flt _ => obtain ⟨t, rfl⟩ := r; rfl
  | ref _ => cases r; rfl
  | ty _ => cases r; rfl
theorem RelV.inj {x y : V} {u : Value} (r : RelV x u) (q : RelV y u) : x = y := Option.some.inj (r.abs.symm.trans q.abs)
theorem Vals.inj : ∀ {xs ys : List V} {us : List Value}, Vals xs us → Vals ys us → xs = ys
  | _, _, _, .nil, .nil => rfl
  | _, _, _, .cons r t, .cons r' t' => by rw [r.inj r', Vals.inj t t']
section
variable {X : Cx} {pins : List (Addr × Obj)} {σ : St} {H : Hp} {s : Shared} {a : Addr} {xs ys : List V}
theorem SqL.of {K : PySem.W.Frag} (h : H a = some (.lst xs)) : SqL K H a xs := .inl (.inl h)
theorem SqT.of {K : PySem.W.Frag} (h : H a = some (.tup xs)) : SqT K H a xs := .inl (.inl h)
theorem Inv.list (I : Inv X pins σ H s) (h : SqL X.K H a xs) : ∃ its : List Value, Vals xs its ∧ PlainL s.heap a its.toArray ∧ xs.length ≤ sizeLine := by
  rcases h with h | ⟨o, its, n, hk, hc, hd, hs, hz, r⟩
  · obtain ⟨z, its, n, r, e⟩ := h.ok I.hok
    exact ⟨its, r, ⟨_, n, e, rfl, rfl, rfl⟩, z⟩
  · refine ⟨its.toList, r, ⟨o, n, I.kIn a o hk, hc, hd, by simpa using hs⟩, ?_⟩
    have e := r.length
    simp only [Array.length_toList] at e
    omega
theorem Inv.tuple (I : Inv X pins σ H s) (h : SqT X.K H a xs) : ∃ its : List Value, Vals xs its ∧ IsTup s.heap a its.toArray ∧ xs.length ≤ sizeLine := by
  rcases h with h | ⟨o, its, n, hk, hc, hs, hz, r⟩
  · obtain ⟨z, its, r, p⟩ := h.ok I.hok
    exact ⟨its, r, p.tup, z⟩
  · refine ⟨its.toList, r, ⟨o, I.kIn a o hk, hc, n, by simpa using hs⟩, ?_⟩
    have e := r.length
    simp only [Array.length_toList] at e
    omega
theorem Inv.list_inj (I : Inv X pins σ H s) (h : SqL X.K H a xs) (h' : SqL X.K H a ys) : xs = ys := by
  obtain ⟨its, r, ⟨o, n, e, _, _, d⟩, _⟩ := I.list h
  obtain ⟨its', r', ⟨o', n', e', _, _, d'⟩, _⟩ := I.list h'
  rw [e] at e'; cases e'
  rw [d] at d'
  injection d' with d1 _
  have : its = its' := by simpa using congrArg Array.toList d1
  subst this
  exact r.inj r'
theorem Inv.tuple_inj (I : Inv X pins σ H s) (h : SqT X.K H a xs) (h' : SqT X.K H a ys) : xs = ys := by
  obtain ⟨its, r, ⟨o, e, _, n, d⟩, _⟩ := I.tuple h
  obtain ⟨its', r', ⟨o', e', _, n', d'⟩, _⟩ := I.tuple h'
  rw [e] at e'; cases e'
  rw [d] at d'
  injection d' with d1 _
  have : its = its' := by simpa using congrArg Array.toList d1
  subst this
  exact r.inj r'
end

/-! ### another wish about exceptions -/
abbrev Cx.wish (X : Cx) (E : Value → Shared → Prop) : Cx := { X with xe := E }
/-- no exception leaves -/
abbrev Cx.nox (X : Cx) : Cx := X.wish fun _ _ => False
theorem Cx.Ok.wish {X : Cx} (ok : X.Ok) (E : Value → Shared → Prop) : (X.wish E).Ok :=
  ⟨ok.mod, ok.kind, ok.glob, ok.blt, ok.above, ok.inj, ok.has, ok.cab, ok.hd, ok.frames, ok.stk, ok.exf, ok.bs, ok.bsz, ok.noex, ok.exfs, ok.funs, ok.frf⟩
theorem Cx.Ok.unwish {X : Cx} {E : Value → Shared → Prop} (ok : (X.wish E).Ok) : X.Ok :=
  ⟨ok.mod, ok.kind, ok.glob, ok.blt, ok.above, ok.inj, ok.has, ok.cab, ok.hd, ok.frames, ok.stk, ok.exf, ok.bs, ok.bsz, ok.noex, ok.exfs, ok.funs, ok.frf⟩
section
variable {X : Cx} {pins : List (Addr × Obj)} {σ : St} {H : Hp} {s : Shared} {E : Value → Shared → Prop}
theorem Inv.wish (I : Inv X pins σ H s) (E : Value → Shared → Prop) : Inv (X.wish E) pins σ H s := ⟨I.ok.wish E, I.os, I.bare, I.base, I.loc, I.cell, I.free, I.freeC, I.pin, I.hok, I.len⟩
theorem Inv.unwish (I : Inv (X.wish E) pins σ H s) : Inv X pins σ H s := ⟨I.ok.unwish, I.os, I.bare, I.base, I.loc, I.cell, I.free, I.freeC, I.pin, I.hok, I.len⟩
theorem SP.unwish {D : Ends} {f : Flow} {s' : Shared} (h : SP (X.wish E) pins D f s') : SP X pins D f s' := by
  cases f with
  | next => obtain ⟨σ', H', I, q⟩ := h; exact ⟨σ', H', I.unwish, q⟩
  | brk => obtain ⟨σ', H', I, q⟩ := h; exact ⟨σ', H', I.unwish, q⟩
  | cont => obtain ⟨σ', H', I, q⟩ := h; exact ⟨σ', H', I.unwish, q⟩
  | ret u => obtain ⟨v, σ', H', I, r, q⟩ := h; exact ⟨v, σ', H', I.unwish, r, q⟩
theorem PSs.nox {st : List Stmt} {t : TS} (h : PSs X.nox st t) : PSs X st t := fun pins s σ H D I hw =>
  wpAny_mono (h pins s σ H D (I.wish _) hw) (fun _ _ q => q.unwish) fun _ _ z => False.elim z
end

/-! ### blocks and small statements -/
section
variable {X : Cx} {st : Stmt} {rest : List Stmt} {t u : TS} {e : Expr} {te : TE} {pos : Pos}
def tNext : TS := fun D σ H => D.nx σ H
def tSeq (t u : TS) : TS := fun D σ H => t { D with nx := u D } σ H
theorem pss_nil : PSs X [] tNext := fun _ _ σ H _ I h => wpAny_execs_nil ⟨σ, H, I, h⟩
theorem pss_cons (h1 : PS X st t) (h2 : PSs X rest u) : PSs X (st :: rest) (tSeq t u) := by
  intro pins s σ H D I h
  refine wpAny_execs_cons (thn (h1 pins s σ H { D with nx := u D } I h) fun f s1 q => ?_)
  cases f with
  | next =>
    obtain ⟨σ', H', I', q⟩ := q
    exact h2 pins s1 σ' H' D I' q
  | ret v => exact q
  | brk => exact q
  | cont => exact q
theorem pss_one (h1 : PS X st t) : PSs X [st] t := by
  intro pins s σ H D I h
  refine wpAny_execs_cons (thn (h1 pins s σ H D I h) fun f s1 q => ?_)
  cases f with
  | next => exact wpAny_execs_nil q
  | ret v => exact q
  | brk => exact q
  | cont => exact q
/-- in a def's body nothing is shown -/
theorem Inv.quiet {pins : List (Addr × Obj)} {σ : St} {H : Hp} {s : Shared} (I : Inv X pins σ H s) : interactive X.env = false := by simp [interactive, I.ok.kind]
/-- an expression whose value is dropped -/
def tDrop (te : TE) : TS := fun D σ H => te σ H fun _ H1 => D.nx σ H1
theorem ps_expr (he : PE X e te) (hs : swapsWith e none pos.line X.env = pure false := by rfl) : PS X (.Expr e pos) (tDrop te) := by
  intro pins s σ H D I h
  exact wpAny_Expr_any (thn (he pins s σ H _ I h) fun v s1 ⟨x, H1, I1, r1, q1⟩ => ⟨σ, H1, I1, q1⟩) I.quiet hs
def tRet (te : TE) : TS := fun D σ H => te σ H D.rt
theorem ps_ret (he : PE X e te) : PS X (.Return (some e) pos) (tRet te) := by
  intro pins s σ H D I h
  exact wpAny_Return_some (thn (he pins s σ H _ I h) fun v s1 ⟨x, H1, I1, r1, q1⟩ => ⟨x, σ, H1, I1, r1, q1⟩)
def tIfS (c : TT) (t u : TS) : TS := fun D σ H => c σ H fun b H1 => if b = true then t D σ H1 else u D σ H1
theorem ps_if {c : Expr} {a b : List Stmt} {tc : TT} (hc : PT X c tc) (ha : PSs X a t) (hb : PSs X b u) : PS X (.If c a b pos) (tIfS tc t u) := by
  intro pins s σ H D I h
  refine wpAny_If (thn (hc pins s σ H _ I h) fun d s1 ⟨H1, I1, q1⟩ => ?_)
  cases d with
  | true => exact ha pins s1 σ H1 D I1 q1
  | false => exact hb pins s1 σ H1 D I1 q1
end

/-! ### targets -/
abbrev TG := V → St → Hp → (St → Hp → Prop) → Prop
abbrev TGs := List V → St → Hp → (St → Hp → Prop) → Prop
def PG (X : Cx) (target : Expr) (t : TG) : Prop :=
  ∀ (pins : List (Addr × Obj)) (s : Shared) (σ : St) (H : Hp) (v : V) (u : Value) (Q : St → Hp → Prop), Inv X pins σ H s → RelV v u → t v σ H Q →
    wpAny (model X.prog X.w) X.A (assign target X.env u) (fun _ s' => ∃ σ' H', Inv X pins σ' H' s' ∧ Q σ' H') X.xe s
/-- several targets, one after another -/
def PGs (X : Cx) (ts : List Expr) (t : TGs) : Prop :=
  ∀ (pins : List (Addr × Obj)) (s : Shared) (σ : St) (H : Hp) (vs : List V) (us : List Value) (Q : St → Hp → Prop), Inv X pins σ H s → Vals vs us → t vs σ H Q →
    wpAny (model X.prog X.w) X.A (assignInOrder ((assignEach ts X.env).map (·.2)) us) (fun _ s' => ∃ σ' H', Inv X pins σ' H' s' ∧ Q σ' H') X.xe s
/-- o[i] = v, by values -/
abbrev TSet := V → V → V → Hp → (Hp → Prop) → Prop
def PSet (X : Cx) (t : TSet) : Prop :=
  ∀ (pins : List (Addr × Obj)) (s : Shared) (σ : St) (H : Hp) (o i v : V) (ov iv u : Value) (Q : Hp → Prop), Inv X pins σ H s → RelV o ov → RelV i iv → RelV v u → t o i v H Q →
    wpAny (model X.prog X.w) X.A (setItem ov iv u) (fun _ s' => ∃ H', Inv X pins σ H' s' ∧ Q H') X.xe s
section
variable {X : Cx} {pos : Pos}
def gName (i : Nat) : TG := fun v σ H Q => Q (σ.set i (some v)) H
theorem pg_name {i : Nat} {x : Str} (hN : X.N.Nodup) (hi : X.N[i]? = some x) (hx : Loc X.env.scope x) (hf : X.fn x = true ∨ X.env.scope.names.lookup x = some .local := by first | exact .inl rfl | exact .inr rfl | assumption) : PG X (.Name x pos) (gName i) := by
  intro pins s σ H v u Q I r h
  exact wpAny_assign_Name (store_ok I hN hi hx r (fun s' I' => ⟨_, H, I', h⟩) hf)
def gNil : TGs := fun vs σ H Q => vs = [] ∧ Q σ H
def gCons (t : TG) (u : TGs) : TGs := fun vs σ H Q => ∃ v r, vs = v :: r ∧ t v σ H fun σ' H' => u r σ' H' Q
theorem pgs_nil : PGs X [] gNil := by
  intro pins s σ H vs us Q I r h
  obtain ⟨e, h⟩ := h
  subst e
  cases r
  exact assignInOrder_nil ⟨σ, H, I, h⟩
theorem pgs_cons {e : Expr} {es : List Expr} {t : TG} {u : TGs} (h1 : PG X e t) (h2 : PGs X es u)
    (hs : (assignEach (e :: es) X.env).map (·.2) = assign e X.env :: (assignEach es X.env).map (·.2) := by rfl) : PGs X (e :: es) (gCons t u) := by
  intro pins s σ H vs us Q I r h
  obtain ⟨v, vr, e1, h⟩ := h
  subst e1
  cases r with
  | cons r rr =>
    rw [hs]
    refine assignInOrder_cons (thn (h1 pins s σ H _ _ _ I r h) fun _ s1 ⟨σ1, H1, I1, q1⟩ => ?_)
    exact h2 pins s1 σ1 H1 _ _ Q I1 rr q1
/-- (a, b, ..) = a tuple of that length -/
def gTup (K : PySem.W.Frag) (n : Nat) (t : TGs) : TG := fun v σ H Q => ∃ a xs, v = .ref a ∧ SqT K H a xs ∧ xs.length = n ∧ t xs σ H Q
theorem pg_tup {es : List Expr} {k : Nat} {t : TGs} {n : Nat} (hc : X.calm = true) (h : PGs X es t)
    (hn : (assignEach es X.env).length = n := by rfl) (hst : (assignEach es X.env).findIdx? (·.1) = none := by rfl) : PG X (.Tuple es k pos) (gTup X.K n t) := by
  intro pins s σ H v u Q I r hw
  obtain ⟨a, xs, e1, hq, hl, hw⟩ := hw
  subst e1
  cases r
  obtain ⟨its, rv, ht, hz⟩ := I.tuple hq
  refine assign_Tuple_tuple (I.ok.hd hc) ht (by simp [hn, ← hl, rv.length]) hst fun h' hx => ?_
  have I1 : Inv X pins σ H { s with heap := h' } := I.kept (t' := s.toks) fun b o e => hx b o (Nat.ne_of_lt (Heap.lt_size e)) e
  exact h pins _ σ H xs _ Q I1 (by simpa using rv) hw
/-- o[i] = .. -/
def gSub (to ti : TE) (t : TSet) : TG := fun v σ H Q => to σ H fun o H1 => ti σ H1 fun i H2 => t o i v H2 fun H3 => Q σ H3
theorem pg_sub {o i : Expr} {to ti : TE} {t : TSet} (ho : PE X o to) (hi : PE X i ti) (hs : PSet X t)
    (ha : ∀ v, assign (.Subscript o i pos) X.env v = (do
      let ov ← holding [v] (eval o X.env)
      let iv ← holding [v, ov] (eval i X.env)
      standAt pos
      holding [v, ov, iv] (setItem ov iv v)
      release [v, ov, iv] []) := by intro _; rfl) : PG X (.Subscript o i pos) (gSub to ti t) := by
  intro pins s σ H v u Q I r h
  rw [ha]
  refine wpAny_bind (wpAny_holding (thn (ho pins s σ H _ I h) fun ov s1 ⟨x, H1, I1, r1, q1⟩ => ?_))
  refine wpAny_bind (wpAny_holding (thn (hi pins s1 σ H1 _ I1 q1) fun iv s2 ⟨y, H2, I2, r2, q2⟩ => ?_))
  refine wpAny_bind (wpAny_standAt (wpAny_bind (wpAny_holding (thn (hs pins s2 σ H2 x y v ov iv u _ I2 r1 r2 r q2) fun _ s3 ⟨H3, I3, q3⟩ => ?_))))
  exact wpAny_release ⟨σ, H3, I3, q3⟩
/-- target = value -/
def tAsg (te : TE) (g : TG) : TS := fun D σ H => te σ H fun x H1 => g x σ H1 D.nx
theorem ps_asg {tg e : Expr} {te : TE} {g : TG} (he : PE X e te) (hg : PG X tg g) (hs : swapsWithSole [tg] e pos.line X.env = pure false := by rfl) (hw : swappedStores [tg] e X.env = pure none := by rfl)
    (h1 : (assignEach [tg] X.env).map (·.2) = [assign tg X.env] := by rfl) : PS X (.Assign [tg] e pos) (tAsg te g) := by
  intro pins s σ H D I h
  refine wpAny_Assign_stores (thn (he pins s σ H _ I h) fun v s1 ⟨x, H1, I1, r1, q1⟩ => ?_) hs hw
  rw [h1]
  exact thn (hg pins s1 σ H1 x v _ I1 r1 q1) fun _ s2 q => q
/-- name = value -/
theorem ps_set {i : Nat} {x : Str} {e : Expr} {te : TE} {pos' : Pos} (hN : X.N.Nodup) (hi : X.N[i]? = some x) (hx : Loc X.env.scope x) (he : PE X e te) (hs : swapsWith e (some (.Name x pos')) pos.line X.env = pure false := by rfl) (hf : X.fn x = true ∨ X.env.scope.names.lookup x = some .local := by first | exact .inl rfl | exact .inr rfl | assumption) :
    PS X (.Assign [.Name x pos'] e pos) (tAsg te (gName i)) := by
  intro pins s σ H D I h
  refine wpAny_Assign_Name (thn (he pins s σ H _ I h) fun v s1 ⟨y, H1, I1, r1, q1⟩ => ?_) hs
  exact store_ok I1 hN hi hx r1 (fun s2 I2 => ⟨_, H1, I2, q1⟩) hf
end

/-! ### while -/
section
variable {X : Cx} {pos : Pos}
/-- the invariant W with its measure -/
def tWhile (c : TT) (tb : TS) : TS := fun D σ H => ∃ W : Nat → St → Hp → Prop, (∃ m, W m σ H) ∧ ∀ m σ H, W m σ H →
  c σ H fun b H1 => if b = true then ∃ N : St → Hp → Prop, (∀ σ' H', N σ' H' → ∃ m', m' < m ∧ W m' σ' H') ∧ tb { D with nx := N, ct := N, bk := D.nx } σ H1 else D.nx σ H1
theorem ps_while {c : Expr} {body : List Stmt} {tc : TT} {tb : TS} (hp : PassesOwn (model X.prog X.w) X.A X.env X.xe) (hc : PT X c tc) (hb : PSs X body tb) : PS X (.While c body [] pos) (tWhile tc tb) := by
  intro pins s σ H D I h
  obtain ⟨W, ⟨m0, w0⟩, turn⟩ := h
  refine wpAny_While (codeAny_whileLoop (fun n s' => ∃ σ' H', Inv X pins σ' H' s' ∧ W n σ' H') ?_ m0 ⟨σ, H, I, w0⟩)
  rintro n s1 ⟨σ1, H1, I1, w1⟩
  refine wpAny_passesOwn hp (thn (hc pins s1 σ1 H1 _ I1 (turn n σ1 H1 w1)) fun b s2 ⟨H2, I2, q2⟩ => ?_)
  cases b with
  | true =>
    obtain ⟨N, hN, q2⟩ := q2
    rw [if_pos rfl]
    refine wpAny_passesOwn hp (thn (hb pins s2 σ1 H2 _ I2 q2) fun f s3 q3 => ?_)
    cases f with
    | next =>
      obtain ⟨σ3, H3, I3, n3⟩ := q3
      obtain ⟨m', hm, w3⟩ := hN σ3 H3 n3
      exact ⟨m', hm, σ3, H3, I3, w3⟩
    | cont =>
      obtain ⟨σ3, H3, I3, n3⟩ := q3
      obtain ⟨m', hm, w3⟩ := hN σ3 H3 n3
      exact ⟨m', hm, σ3, H3, I3, w3⟩
    | brk => exact q3
    | ret v => exact q3
  | false =>
    rw [if_neg Bool.false_ne_true]
    exact wpAny_execs_nil ⟨σ1, H2, I2, q2⟩
end

/-! ### what a loop or a comprehension walks -/
/-- at turn i: it yields x (the heap may grow), or it stops -/
structure It where
  go : Nat → Hp → Prop
  yld : Nat → Hp → V → Hp → Prop
  stop : Nat → Hp → Prop
/-- the iterator's own objects may turn: they are not the frame's, not pinned, younger than the entry (or a comprehension's own) -/
def FpOk (X : Cx) (pins : List (Addr × Obj)) (H : Hp) (b : Addr) : Prop :=
  H b = none ∧ b ≠ X.env.locals ∧ b ∉ X.fs ∧ (b ∈ X.ex ∨ X.s₀.heap.objs.size ≤ b) ∧ (∀ x c, X.env.cells.lookup x = some c → c ≠ b) ∧ ∀ p ∈ X.pn ++ pins, p.1 ≠ b
theorem Inv.fpOk {X : Cx} {pins : List (Addr × Obj)} {σ : St} {H H' : Hp} {s : Shared} {b : Addr} (I : Inv X pins σ H s) (hb : s.heap.objs.size ≤ b) (hn : H' b = none) : FpOk X pins H' b := by
  refine ⟨hn, Nat.ne_of_gt (Nat.lt_of_lt_of_le I.lt hb), I.nofs hb, .inr (Nat.le_trans I.sz hb), fun x c e z => ?_, fun p hp z => ?_⟩
  · obtain ⟨v, q⟩ := I.cell x c e
    exact absurd (Nat.lt_of_lt_of_le q.lt (by rw [z]; exact hb)) (Nat.lt_irrefl _)
  · exact absurd (Nat.lt_of_lt_of_le (Heap.lt_size (I.pin p hp).1) (by rw [z]; exact hb)) (Nat.lt_irrefl _)
structure Turn (P : Program) (w : World) (K : PySem.W.Frag) (tg : Expr) (J : It) (fp : List Addr) (it : Addr) (tn : Nat → Heap → Prop) : Prop where
  mem : it ∈ fp
  obj : ∀ i h, tn i h → ∀ b ∈ fp, ∃ o, h.get? b = some o ∧ ∀ v, o.data ≠ .cell v
  keep : ∀ i h h', tn i h → (∀ b ∈ fp, ∀ o, h.get? b = some o → h'.get? b = some o) → tn i h'
  item : ∀ (X : Cx), X.prog = P → X.w = w → X.K = K → X.calm = true → ∀ (i : Nat) (pins : List (Addr × Obj)) (s : Shared) (σ : St) (H : Hp) (E : Value → Shared → Prop), Inv X pins σ H s → (∀ b ∈ fp, FpOk X pins H b) → tn i s.heap → J.go i H →
    wpAny (model P w) X.A (pyNext (.ref it)) (fun r s1 => ∃ u, r = some u ∧
      wpAny (model P w) X.A (letOwnedTupleGo tg (.ref it) u) (fun _ s2 => ∃ x H', Inv X pins σ H' s2 ∧ RelV x u ∧ J.yld i H x H' ∧ tn (i + 1) s2.heap ∧ ∀ b ∈ fp, H' b = none) E s1) E s
  done : ∀ (X : Cx), X.prog = P → X.w = w → X.K = K → X.calm = true → ∀ (i : Nat) (pins : List (Addr × Obj)) (s : Shared) (σ : St) (H : Hp) (E : Value → Shared → Prop), Inv X pins σ H s → (∀ b ∈ fp, FpOk X pins H b) → tn i s.heap → J.stop i H →
    wpAny (model P w) X.A (pyNext (.ref it)) (fun r s1 => r = none ∧ Inv X pins σ H s1) E s
  self : ∀ (A : Around) (i : Nat) (s : Shared) (Q : Value → Shared → Prop) (E : Value → Shared → Prop), tn i s.heap → Q (.ref it) s → wpAny (model P w) A (pyIter (.ref it)) Q E s
abbrev TI := St → Hp → (It → Hp → Prop) → Prop
/-- an iterator has come -/
def PIE (X : Cx) (pins : List (Addr × Obj)) (σ : St) (tg : Expr) (R : It → Hp → Prop) (itv : Value) (s2 : Shared) : Prop :=
  ∃ (it : Addr) (fp : List Addr) (tn : Nat → Heap → Prop) (J : It) (H' : Hp), itv = .ref it ∧ Inv X pins σ H' s2 ∧ Turn X.prog X.w X.K tg J fp it tn ∧ tn 0 s2.heap ∧ (∀ b ∈ fp, FpOk X pins H' b) ∧ R J H'
def PI (X : Cx) (tg iter : Expr) (wi : TI) : Prop :=
  ∀ (pins : List (Addr × Obj)) (s : Shared) (σ : St) (H : Hp) (R : It → Hp → Prop), Inv X pins σ H s → wi σ H R →
    wpAny (model X.prog X.w) X.A (eval iter X.env) (fun v s1 => wpAny (model X.prog X.w) X.A (pyIter v) (PIE X pins σ tg R) X.xe s1) X.xe s

/-- the step ahead of the store is nothing for an iterator that keeps no tuple -/
theorem go_of {M : Model} {A : Around} {E : Value → Shared → Prop} {s : Shared} {tg : Expr} {it : Addr} {u : Value} {o : Obj} {n : String} {vs : Array Value} {Q : Unit → Shared → Prop} (ho : s.heap.get? it = some o) (hc : o.cls = .type n) (hd : o.data = .fields vs)
    (hn : ["enumerate", "zip", "dict_itemiterator", "dict_reverseitemiterator", "odict_iterator", "itertools.zip_longest", "itertools.pairwise"].contains n = false) (hQ : Q () s) : wpAny M A (letOwnedTupleGo tg (.ref it) u) Q E s := by
  unfold letOwnedTupleGo
  cases tg <;> first
    | exact wpAny_pure hQ
    | (cases u <;> first
        | exact wpAny_pure hQ
        | (refine wpAny_bind (wpAny_load ho ?_)
           rw [hc, hd]
           show wpAny M A (if (["enumerate", "zip", "dict_itemiterator", "dict_reverseitemiterator", "odict_iterator", "itertools.zip_longest", "itertools.pairwise"].contains n && vs[0]? == some (rawInt _)) = true then _ else _) Q E s
           rw [if_neg (by intro h; rw [hn, Bool.false_and] at h; cases h)]
           exact wpAny_pure hQ))

/-- the list at a, as it stands at each turn (a loop may append to it) -/
def Itl (K : PySem.W.Frag) (a : Addr) : It :=
  ⟨fun i H => ∃ xs x, SqL K H a xs ∧ xs[i]? = some x, fun i H x H' => H' = H ∧ ∀ xs, SqL K H a xs → xs[i]? = some x, fun i H => ∃ xs, SqL K H a xs ∧ xs.length ≤ i⟩
def Itt (K : PySem.W.Frag) (a : Addr) : It :=
  ⟨fun i H => ∃ xs x, SqT K H a xs ∧ xs[i]? = some x, fun i H x H' => H' = H ∧ ∀ xs, SqT K H a xs → xs[i]? = some x, fun i H => ∃ xs, SqT K H a xs ∧ xs.length ≤ i⟩
/-- lo, lo + 1, .. (n of them) -/
def Itr (lo : Int) (n : Nat) : It := ⟨fun i _ => i < n, fun i H x H' => H' = H ∧ x = .int (lo + i), fun i _ => n ≤ i⟩
theorem turn_list {P : Program} {w : World} {K : PySem.W.Frag} {tg : Expr} (a it : Addr) : Turn P w K tg (Itl K a) [it] it (fun i h => h.IsListIter it a i) where
  mem := by simp
  obj := fun i h st b hb => by
    have e : b = it := by simpa using hb
    subst e
    obtain ⟨o, e, c, d⟩ := st
    exact ⟨o, e, fun v z => by rw [d] at z; cases z⟩
  keep := fun i h h' st k => st.at fun o e => k it (by simp) o e
  item := by
    intro X hP hw hK hc i pins s σ H E I hf st hg
    subst hP hw hK
    obtain ⟨xs, x, hq, hx⟩ := hg
    obtain ⟨its, rv, p, hz⟩ := I.list hq
    obtain ⟨u, hu, ru⟩ := rv.get hx
    obtain ⟨f0, f1, f2, f3, f4, f5⟩ := hf it (by simp)
    refine wpAny_pyNext_list_item st p.isList (x := u) (by simpa using hu) fun h' st' sb => ?_
    have I1 : Inv X pins σ H { s with heap := h' } := I.turned (t' := s.toks) (fun b o hb e => (sb.2 b hb).trans e) f0 f1 f3 f4 f5
    obtain ⟨o, e, c, d⟩ := id st'
    exact ⟨u, rfl, go_of (s := { s with heap := h' }) e c d (by decide) ⟨x, H, I1, ru, ⟨rfl, fun ys hy => by rw [I.list_inj hy hq]; exact hx⟩, st', fun b hb => (hf b hb).1⟩⟩
  done := by
    intro X hP hw hK hc i pins s σ H E I hf st hg
    subst hP hw hK
    obtain ⟨xs, hq, hx⟩ := hg
    obtain ⟨its, rv, p, hz⟩ := I.list hq
    obtain ⟨f0, f1, f2, f3, f4, f5⟩ := hf it (by simp)
    have hl := rv.length
    exact wpAny_pyNext_list_end (I.ok.hd hc) st p.isList (by simp; omega) fun h' eb => ⟨rfl, I.turned (t' := s.toks) (fun b o hb e => eb b o hb e) f0 f1 f3 f4 f5⟩
  self := fun _ _ _ _ _ st h => wpAny_pyIter_listiter st h
theorem turn_tuple {P : Program} {w : World} {K : PySem.W.Frag} {tg : Expr} (a it : Addr) : Turn P w K tg (Itt K a) [it] it (fun i h => h.IsTupleIter it a i) where
  mem := by simp
  obj := fun i h st b hb => by
    have e : b = it := by simpa using hb
    subst e
    obtain ⟨o, e, c, d⟩ := st
    exact ⟨o, e, fun v z => by rw [d] at z; cases z⟩
  keep := fun i h h' st k => st.at fun o e => k it (by simp) o e
  item := by
    intro X hP hw hK hc i pins s σ H E I hf st hg
    subst hP hw hK
    obtain ⟨xs, x, hq, hx⟩ := hg
    obtain ⟨its, rv, p, hz⟩ := I.tuple hq
    obtain ⟨u, hu, ru⟩ := rv.get hx
    obtain ⟨f0, f1, f2, f3, f4, f5⟩ := hf it (by simp)
    refine wpAny_pyNext_tuple_item st (show s.heap.IsTuple a its.toArray from p) (x := u) (by simpa using hu) fun h' st' sb => ?_
    have I1 : Inv X pins σ H { s with heap := h' } := I.turned (t' := s.toks) (fun b o hb e => (sb.2 b hb).trans e) f0 f1 f3 f4 f5
    obtain ⟨o, e, c, d⟩ := id st'
    exact ⟨u, rfl, go_of (s := { s with heap := h' }) e c d (by decide) ⟨x, H, I1, ru, ⟨rfl, fun ys hy => by rw [I.tuple_inj hy hq]; exact hx⟩, st', fun b hb => (hf b hb).1⟩⟩
  done := by
    intro X hP hw hK hc i pins s σ H E I hf st hg
    subst hP hw hK
    obtain ⟨xs, hq, hx⟩ := hg
    obtain ⟨its, rv, p, hz⟩ := I.tuple hq
    obtain ⟨f0, f1, f2, f3, f4, f5⟩ := hf it (by simp)
    have hl := rv.length
    exact wpAny_pyNext_tuple_end (I.ok.hd hc) st (show s.heap.IsTuple a its.toArray from p) (by simp; omega) fun h' eb => ⟨rfl, I.turned (t' := s.toks) (fun b o hb e => eb b o hb e) f0 f1 f3 f4 f5⟩
  self := fun _ _ _ _ _ st h => wpAny_pyIter_tupleiter st h
theorem turn_range {P : Program} {w : World} {K : PySem.W.Frag} {tg : Expr} (it : Addr) (lo : Int) (n : Nat) : Turn P w K tg (Itr lo n) [it] it (fun i h => IsRangeIter h it (lo + (i : Nat) * 1) ((n : Int) - (i : Nat)) 1) where
  mem := by simp
  obj := fun i h st b hb => by
    have e : b = it := by simpa using hb
    subst e
    exact ⟨_, st, fun v z => by
      have z' : Data.fields _ = Data.cell v := z
      cases z'⟩
  keep := fun i h h' st k => k it (by simp) _ st
  item := by
    intro X hP hw hK hc i pins s σ H E I hf st hg
    subst hP hw hK
    obtain ⟨f0, f1, f2, f3, f4, f5⟩ := hf it (by simp)
    have W := Walks.range (prog := X.prog) (w := X.w) (I.ok.hd hc) it lo 1 n
    refine W.item i s _ _ hg st fun v h' tk hv st' kk => ?_
    obtain ⟨t, rfl⟩ := hv
    have I1 : Inv X pins σ H { s with heap := h', toks := tk } := I.turned (fun b o hb e => kk b o (by simpa using hb) e) f0 f1 f3 f4 f5
    refine ⟨_, rfl, go_of (s := { s with heap := h', toks := tk }) (n := "range_iterator") st' rfl rfl (by decide) ⟨.int (lo + i), H, I1, ⟨t, ?_⟩, ⟨rfl, rfl⟩, st', fun b hb => (hf b hb).1⟩⟩
    rw [Int.mul_one]
  done := by
    intro X hP hw hK hc i pins s σ H E I hf st hg
    subst hP hw hK
    obtain ⟨f0, f1, f2, f3, f4, f5⟩ := hf it (by simp)
    exact wpAny_pyNext_range_end (I.ok.hd hc) st (by have : n ≤ i := hg; omega) fun h' eb => ⟨rfl, I.turned (t' := s.toks) (fun b o hb e => eb b o hb e) f0 f1 f3 f4 f5⟩
  self := fun _ _ _ _ _ st h => wpAny_pyIter_rangeiter st h
end L2

namespace L2
open PySem PySem.Spec PyProof.Rows
section
variable {X : Cx} {tg : Expr}
def iList (K : PySem.W.Frag) (tl : TE) : TI := fun σ H R => tl σ H fun x H1 => ∃ a, x = .ref a ∧ (∃ xs, SqL K H1 a xs) ∧ R (Itl K a) H1
def iTup (K : PySem.W.Frag) (tl : TE) : TI := fun σ H R => tl σ H fun x H1 => ∃ a, x = .ref a ∧ (∃ xs, SqT K H1 a xs) ∧ R (Itt K a) H1
theorem pi_list {l : Expr} {tl : TE} (hl : PE X l tl) : PI X tg l (iList X.K tl) := by
  intro pins s σ H R I h
  refine thn (hl pins s σ H _ I h) fun v s1 ⟨x, H1, I1, r1, q1⟩ => ?_
  obtain ⟨a, e, ⟨xs, hq⟩, q⟩ := q1
  subst e
  cases r1
  obtain ⟨its, rv, p, hz⟩ := I1.list hq
  refine wpAny_pyIter_list p.isList ?_
  refine ⟨s1.heap.objs.size, [s1.heap.objs.size], _, _, H1, rfl, I1.kept (t' := s1.toks) fun b o e => Heap.get?_push_of_some _ e, turn_list a _, ⟨_, Heap.get?_push_size _ rfl, rfl, rfl⟩, fun b hb => ?_, q⟩
  have e : b = s1.heap.objs.size := by simpa using hb
  subst e
  exact I1.fpOk (Nat.le_refl _) (I1.hok.fresh (Nat.le_refl _))
theorem pi_tup {l : Expr} {tl : TE} (hl : PE X l tl) : PI X tg l (iTup X.K tl) := by
  intro pins s σ H R I h
  refine thn (hl pins s σ H _ I h) fun v s1 ⟨x, H1, I1, r1, q1⟩ => ?_
  obtain ⟨a, e, ⟨xs, hq⟩, q⟩ := q1
  subst e
  cases r1
  obtain ⟨its, rv, p, hz⟩ := I1.tuple hq
  refine wpAny_pyIter_tuple (show s1.heap.IsTuple a its.toArray from p) ?_
  refine ⟨s1.heap.objs.size, [s1.heap.objs.size], _, _, H1, rfl, I1.kept (t' := s1.toks) fun b o e => Heap.get?_push_of_some _ e, turn_tuple a _, ⟨_, Heap.get?_push_size _ rfl, rfl, rfl⟩, fun b hb => ?_, q⟩
  have e : b = s1.heap.objs.size := by simpa using hb
  subst e
  exact I1.fpOk (Nat.le_refl _) (I1.hok.fresh (Nat.le_refl _))
/-- a range object just made, walked -/
theorem range_it {pins : List (Addr × Obj)} {σ : St} {H : Hp} {s : Shared} {R : It → Hp → Prop} {E : Value → Shared → Prop} {lo hi : Int} {t u v : Tok} {tk : Nat} (I : Inv X pins σ H s) (h1 : -(2 ^ 62) ≤ lo) (h2 : lo < 2 ^ 62) (h3 : -(2 ^ 62) ≤ hi) (h4 : hi < 2 ^ 62)
    (q : R (Itr lo (hi - lo).toNat) H) : wpAny (model X.prog X.w) X.A (pyIter (.ref s.heap.objs.size)) (PIE X pins σ tg R) E { s with heap := s.heap.push { cls := .type "range", data := .fields #[.int lo t, .int hi u, .int 1 v] }, toks := tk } := by
  refine wpAny_pyIter_range (IsRange.new ..) (small_one h1 h2 h3 h4) ?_
  have I1 : Inv X pins σ H { s with heap := s.heap.push { cls := .type "range", data := .fields #[.int lo t, .int hi u, .int 1 v] }, toks := tk } := I.kept fun b o e => Heap.get?_push_of_some _ e
  refine ⟨(s.heap.push { cls := .type "range", data := .fields #[.int lo t, .int hi u, .int 1 v] }).objs.size, [(s.heap.push { cls := .type "range", data := .fields #[.int lo t, .int hi u, .int 1 v] }).objs.size], _, _, H, rfl,
    I1.kept (t' := tk) fun b o e => Heap.get?_push_of_some _ e, turn_range _ lo (hi - lo).toNat, ?_, fun b hb => ?_, q⟩
  · have e1 : lo + ((0 : Nat) : Int) * 1 = lo := by simp
    have e2 : (((hi - lo).toNat : Nat) : Int) - ((0 : Nat) : Int) = Builtin.Range.rangeSize lo hi 1 := by rw [rangeSize_one]; split <;> omega
    show IsRangeIter _ _ (lo + ((0 : Nat) : Int) * 1) ((((hi - lo).toNat : Nat) : Int) - ((0 : Nat) : Int)) 1
    rw [e1, e2]
    exact Heap.get?_push_size _ rfl
  · have e : b = (s.heap.push { cls := .type "range", data := .fields #[.int lo t, .int hi u, .int 1 v] }).objs.size := by simpa using hb
    subst e
    exact I1.fpOk (Nat.le_refl _) (I1.hok.fresh (Nat.le_refl _))
def iRng1 (ta : TA) : TI := fun σ H R => ta σ H fun vs H1 => ∃ j : Int, vs = [.int j] ∧ -(2 ^ 62) ≤ j ∧ j < 2 ^ 62 ∧ R (Itr 0 j.toNat) H1
theorem pi_range1 {a : Expr} {ta : TA} {p pos : Pos} (hg : Gl X "range") (hm : X.mg "range" = none) (ha : PA X [a] ta) (hs : starEach [a] X.env = [(false, eval a X.env)] := by rfl) : PI X tg (.Call (.Name "range" p) [a] [] pos) (iRng1 ta) := by
  intro pins s σ H R I h
  refine Call_ (ld_blt I hg hm boot_range (PyProof.Rows.callWith_type1 (thn (ha pos pins s σ H _ I h) fun us s1 ⟨vs, H1, I1, r1, q1⟩ => ?_) hs rfl))
  obtain ⟨j, e, q1, q2, q⟩ := q1
  subst e
  cases r1 with
  | cons r rr =>
    cases rr
    obtain ⟨t, rfl⟩ := r
    exact call_range_1 (range_it I1 (by omega) (by omega) q1 q2 (by simpa using q))
/-! ### for -/
/-- W: the invariant by the turn and a measure; N: what the body is to reach -/
def tFor (wi : TI) (g : TG) (tb : TS) : TS := fun D σ H => wi σ H fun J H1 => ∃ W : Nat → Nat → St → Hp → Prop, (∃ m, W 0 m σ H1) ∧ ∀ i m σ H, W i m σ H →
  (J.stop i H ∧ D.nx σ H) ∨ (J.go i H ∧ ∃ N : St → Hp → Prop, (∀ σ' H', N σ' H' → ∃ m', m' < m ∧ W (i + 1) m' σ' H') ∧ ∀ x H', J.yld i H x H' → g x σ H' fun σ2 H2 => tb { D with nx := N, ct := N, bk := D.nx } σ2 H2)
/-- the records at fp as they stand -/
def pinsAt (fp : List Addr) (h : Heap) : List (Addr × Obj) := fp.filterMap fun b => (h.get? b).map fun o => (b, o)
theorem mem_pinsAt {fp : List Addr} {h : Heap} {b : Addr} {o : Obj} (hb : b ∈ fp) (e : h.get? b = some o) : (b, o) ∈ pinsAt fp h := List.mem_filterMap.mpr ⟨b, hb, by rw [e]; rfl⟩
theorem of_pinsAt {fp : List Addr} {h : Heap} {p : Addr × Obj} (hp : p ∈ pinsAt fp h) : p.1 ∈ fp ∧ h.get? p.1 = some p.2 := by
  obtain ⟨b, hb, e⟩ := List.mem_filterMap.mp hp
  cases q : h.get? b with
  | none => rw [q] at e; cases e
  | some o =>
    rw [q] at e
    have e' : (b, o) = p := Option.some.inj e
    subst e'
    exact ⟨hb, q⟩
theorem Inv.pinned {pins : List (Addr × Obj)} {σ : St} {H : Hp} {s : Shared} {fp : List Addr} (I : Inv X pins σ H s) (hf : ∀ b ∈ fp, FpOk X pins H b) (ho : ∀ b ∈ fp, ∃ o, s.heap.get? b = some o ∧ ∀ v, o.data ≠ .cell v) : Inv X (pins ++ pinsAt fp s.heap) σ H s :=
  I.pins_of fun p hp => (List.mem_append.mp hp).elim (fun z => I.pin p (List.mem_append_right _ z)) fun z => by
    obtain ⟨hb, e⟩ := of_pinsAt z
    obtain ⟨f0, f1, f2, _⟩ := hf p.1 hb
    obtain ⟨o, e', d⟩ := ho p.1 hb
    rw [e] at e'; cases e'
    exact ⟨e, f0, f1, f2, d⟩
theorem Inv.unpinned {pins pl : List (Addr × Obj)} {σ : St} {H : Hp} {s : Shared} (I : Inv X (pins ++ pl) σ H s) : Inv X pins σ H s := I.pins_of fun p hp => I.pin p (List.mem_append_right _ (List.mem_append_left _ hp))
theorem ps_for {iter : Expr} {body : List Stmt} {wi : TI} {g : TG} {tb : TS} {pos : Pos} (hp : PassesOwn (model X.prog X.w) X.A X.env X.xe) (hc : X.calm = true) (hi : PI X tg iter wi) (hg : PG X tg g) (hb : PSs X body tb)
    (hs : ∀ x, foldedSetIterable iter X.env x = pure x := by intro _; rfl) : PS X (.For tg iter body [] pos) (tFor wi g tb) := by
  intro pins s σ H D I h
  refine wpAny_For (thn (hi pins s σ H _ I h) fun v s1 h1 => thn h1 fun itv s2 h2 => ?_) hs
  obtain ⟨it, fp, tn, J, H2, e, I2, T, st2, f2, W, ⟨m0, w0⟩, turn⟩ := h2
  subst e
  -- what stays true of the iterator's objects through the loop
  have stat : ∀ {H' : Hp}, (∀ b ∈ fp, H' b = none) → ∀ b ∈ fp, FpOk X pins H' b := fun hn b hb => ⟨hn b hb, (f2 b hb).2⟩
  refine codeAny_forLoop_any (fun n s' => ∃ i σ' H', Inv X pins σ' H' s' ∧ tn i s'.heap ∧ (∀ b ∈ fp, H' b = none) ∧ W i n σ' H') ?_ m0 ⟨0, σ, H2, I2, st2, fun b hb => (f2 b hb).1, w0⟩
  rintro n s3 ⟨i, σ3, H3, I3, st3, fr3, w3⟩
  rcases turn i n σ3 H3 w3 with ⟨stop, qn⟩ | ⟨go, N, hN, step⟩
  · refine wpAny_passesOwn hp (thn (T.done X rfl rfl rfl hc i pins s3 σ3 H3 X.xe I3 (stat fr3) st3 stop) fun r s4 ⟨hr, I4⟩ => ?_)
    subst hr
    exact wpAny_execs_nil ⟨σ3, H3, I4, qn⟩
  · refine wpAny_passesOwn hp (thn (T.item X rfl rfl rfl hc i pins s3 σ3 H3 X.xe I3 (stat fr3) st3 go) fun r s4 ⟨u, hr, h4⟩ => ?_)
    subst hr
    refine wpAny_passesOwn hp (thn h4 fun _ s5 ⟨x, H5, I5, r5, y5, st5, fr5⟩ => ?_)
    have I5' := I5.pinned (stat fr5) (T.obj _ _ st5)
    refine wpAny_passesOwn hp (thn (hg _ s5 σ3 H5 x u _ I5' r5 (step x H5 y5)) fun _ s6 ⟨σ6, H6, I6, q6⟩ => ?_)
    refine wpAny_passesOwn hp (thn (hb _ s6 σ6 H6 _ I6 q6) fun f s7 q7 => ?_)
    have again : ∀ {σ7 : St} {H7 : Hp}, Inv X (pins ++ pinsAt fp s5.heap) σ7 H7 s7 → N σ7 H7 → ∃ m, m < n ∧ ∃ i σ' H', Inv X pins σ' H' s7 ∧ tn i s7.heap ∧ (∀ b ∈ fp, H' b = none) ∧ W i m σ' H' := fun {σ7 H7} I7 n7 => by
      obtain ⟨m', hm, w7⟩ := hN σ7 H7 n7
      refine ⟨m', hm, i + 1, σ7, H7, I7.unpinned, T.keep _ _ _ st5 fun b hb o e => (I7.pin (b, o) (List.mem_append_right _ (List.mem_append_right _ (mem_pinsAt hb e)))).1, fun b hb => ?_, w7⟩
      obtain ⟨o, e, d⟩ := T.obj _ _ st5 b hb
      exact (I7.pin (b, o) (List.mem_append_right _ (List.mem_append_right _ (mem_pinsAt hb e)))).2.1
    cases f with
    | next => obtain ⟨σ7, H7, I7, n7⟩ := q7; exact again I7 n7
    | cont => obtain ⟨σ7, H7, I7, n7⟩ := q7; exact again I7 n7
    | brk => obtain ⟨σ7, H7, I7, q7⟩ := q7; exact ⟨σ7, H7, I7.unpinned, q7⟩
    | ret v => obtain ⟨x7, σ7, H7, I7, r7, q7⟩ := q7; exact ⟨x7, σ7, H7, I7.unpinned, r7, q7⟩
end

/-! ### the forms one uses -/
theorem for_tup {K : PySem.W.Frag} {a : Addr} {xs : List V} {g : TG} {tb : TS} {D : Ends} {σ : St} {H : Hp} (Pv : Nat → St → Hp → Prop) (h0 : Pv 0 σ H) (hl : ∀ i σ H, i ≤ xs.length → Pv i σ H → SqT K H a xs)
    (hs : ∀ i x σ H, xs[i]? = some x → Pv i σ H → g x σ H fun σ2 H2 => tb { D with nx := Pv (i + 1), ct := Pv (i + 1), bk := D.nx } σ2 H2) (hd : ∀ σ H, Pv xs.length σ H → D.nx σ H) :
    ∃ W : Nat → Nat → St → Hp → Prop, (∃ m, W 0 m σ H) ∧ ∀ i m σ H, W i m σ H →
      ((Itt K a).stop i H ∧ D.nx σ H) ∨ ((Itt K a).go i H ∧ ∃ N : St → Hp → Prop, (∀ σ' H', N σ' H' → ∃ m', m' < m ∧ W (i + 1) m' σ' H') ∧ ∀ x H', (Itt K a).yld i H x H' → g x σ H' fun σ2 H2 => tb { D with nx := N, ct := N, bk := D.nx } σ2 H2) := by
  refine ⟨fun i m σ H => m = xs.length - i ∧ i ≤ xs.length ∧ Pv i σ H, ⟨xs.length, by simp, Nat.zero_le _, h0⟩, ?_⟩
  rintro i m σ H ⟨rfl, hi, p⟩
  have q := hl i σ H hi p
  by_cases hlt : i < xs.length
  · refine .inr ⟨⟨xs, xs[i], q, by simp [hlt]⟩, Pv (i + 1), fun σ' H' p' => ⟨xs.length - (i + 1), by omega, rfl, hlt, p'⟩, fun x H' y => ?_⟩
    obtain ⟨e, y⟩ := y
    subst e
    exact hs i x σ _ (y xs q) p
  · have e : i = xs.length := by omega
    subst e
    exact .inl ⟨⟨xs, q, Nat.le_refl _⟩, hd σ H p⟩
theorem for_range {lo : Int} {n : Nat} {g : TG} {tb : TS} {D : Ends} {σ : St} {H : Hp} (Pv : Nat → St → Hp → Prop) (h0 : Pv 0 σ H)
    (hs : ∀ i σ H, i < n → Pv i σ H → g (.int (lo + i)) σ H fun σ2 H2 => tb { D with nx := Pv (i + 1), ct := Pv (i + 1), bk := D.nx } σ2 H2) (hd : ∀ σ H, Pv n σ H → D.nx σ H) :
    ∃ W : Nat → Nat → St → Hp → Prop, (∃ m, W 0 m σ H) ∧ ∀ i m σ H, W i m σ H →
      ((Itr lo n).stop i H ∧ D.nx σ H) ∨ ((Itr lo n).go i H ∧ ∃ N : St → Hp → Prop, (∀ σ' H', N σ' H' → ∃ m', m' < m ∧ W (i + 1) m' σ' H') ∧ ∀ x H', (Itr lo n).yld i H x H' → g x σ H' fun σ2 H2 => tb { D with nx := N, ct := N, bk := D.nx } σ2 H2) := by
  refine ⟨fun i m σ H => m = n - i ∧ i ≤ n ∧ Pv i σ H, ⟨n, by simp, Nat.zero_le _, h0⟩, ?_⟩
  rintro i m σ H ⟨rfl, hi, p⟩
  by_cases hlt : i < n
  · refine .inr ⟨hlt, Pv (i + 1), fun σ' H' p' => ⟨n - (i + 1), by omega, rfl, hlt, p'⟩, fun x H' y => ?_⟩
    obtain ⟨e, y⟩ := y
    subst e y
    exact hs i σ _ hlt p
  · have e : i = n := by omega
    subst e
    exact .inl ⟨Nat.le_refl _, hd σ H p⟩
end L2

namespace L2
open PySem PySem.Spec PyProof.Rows

abbrev R2 := V → V → Hp → VK → Prop
/-- a two-place operation on values: f is binaryOp op, inplaceOp op or compareOp op -/
def OpR (X : Cx) (f : Value → Value → Sem Value) (r : R2) : Prop :=
  ∀ (pins : List (Addr × Obj)) (s : Shared) (σ : St) (H : Hp) (x y : V) (v u : Value) (Q : VK), Inv X pins σ H s → RelV x v → RelV y u → r x y H Q →
    wpAny (model X.prog X.w) X.A (f v u) (EP X pins σ Q) X.xe s
/-- a one-place operation -/
def UnR (X : Cx) (f : Value → Sem Value) (r : V → Hp → VK → Prop) : Prop :=
  ∀ (pins : List (Addr × Obj)) (s : Shared) (σ : St) (H : Hp) (x : V) (v : Value) (Q : VK), Inv X pins σ H s → RelV x v → r x H Q →
    wpAny (model X.prog X.w) X.A (f v) (EP X pins σ Q) X.xe s
/-- a call of a value that is known (a builtin, a type) with values -/
def CallR (X : Cx) (f : Value) (r : List V → Hp → VK → Prop) : Prop :=
  ∀ (pins : List (Addr × Obj)) (s : Shared) (σ : St) (H : Hp) (xs : List V) (us : List Value) (Q : VK), Inv X pins σ H s → Vals xs us → r xs H Q →
    wpAny (model X.prog X.w) X.A (call f us) (EP X pins σ Q) X.xe s
def tOp (r : R2) (ta tb : TE) : TE := fun σ H Q => ta σ H fun x H1 => tb σ H1 fun y H2 => r x y H2 Q
def tUn (r : V → Hp → VK → Prop) (ta : TE) : TE := fun σ H Q => ta σ H fun x H1 => r x H1 Q
/-- ints in, under C, and a value out -/
def rI (C : Int → Int → Prop) (g : Int → Int → V) : R2 := fun x y H Q => ∃ i j, x = .int i ∧ y = .int j ∧ C i j ∧ Q (g i j) H
def rI0 (g : Int → Int → V) : R2 := fun x y H Q => ∃ i j, x = .int i ∧ y = .int j ∧ Q (g i j) H
def rU (g : Int → V) : V → Hp → VK → Prop := fun x H Q => ∃ i, x = .int i ∧ Q (g i) H

section
variable {X : Cx} {a b c : Expr} {ta tb tc : TE} {pos : Pos}

theorem binT (ha : PE X a ta) (hb : PE X b tb) {pins : List (Addr × Obj)} {s : Shared} {σ : St} {H : Hp} {R : V → V → Hp → Prop} (I : Inv X pins σ H s)
    (h : ta σ H fun x H1 => tb σ H1 fun y H2 => R x y H2) {Q : Value → Shared → Prop} {f : Value → Value → Sem Value}
    (hf : ∀ v u s2 x y H2, Inv X pins σ H2 s2 → RelV x v → RelV y u → R x y H2 → wpAny (model X.prog X.w) X.A (f v u) Q X.xe s2) :
    wpAny (model X.prog X.w) X.A (eval a X.env) (fun v s₁ => wpAny (model X.prog X.w) X.A (eval b X.env) (fun u s₂ => wpAny (model X.prog X.w) X.A (f v u) Q X.xe s₂) X.xe s₁) X.xe s := by
  refine thn (ha pins s σ H _ I h) fun v s1 ⟨x, H1, I1, r1, q1⟩ => ?_
  refine thn (hb pins s1 σ H1 _ I1 q1) fun u s2 ⟨y, H2, I2, r2, q2⟩ => ?_
  exact hf v u s2 x y H2 I2 r1 r2 q2

theorem pe_op {op : Operator} {r : R2} (ho : OpR X (binaryOp op) r) (ha : PE X a ta) (hb : PE X b tb) : PE X (.BinOp a op b pos) (tOp r ta tb) := by
  intro pins s σ H Q I h
  exact wpAny_BinOp (binT ha hb I h fun v u s2 x y H2 I2 rx ry q => ho pins s2 σ H2 x y v u Q I2 rx ry q)
theorem pe_un {op : UnaryOp} {r : V → Hp → VK → Prop} (ho : UnR X (unaryOp op) r) (ha : PE X a ta) : PE X (.UnaryOp op a pos) (tUn r ta) := by
  intro pins s σ H Q I h
  exact UnaryOp_ (thn (ha pins s σ H _ I h) fun v s1 ⟨x, H1, I1, r1, q1⟩ => ho pins s1 σ H1 x v Q I1 r1 q1)
/-! ### ints -/
theorem opI {f : Value → Value → Sem Value} {C : Int → Int → Prop} {g : Int → Int → Int}
    (rule : ∀ (i j : Int) (t u : Tok) (s : Shared) (Q : Value → Shared → Prop) (E : Value → Shared → Prop), C i j → Q (.int (g i j) s.toks) { s with toks := s.toks + 1 } → wpAny (model X.prog X.w) X.A (f (.int i t) (.int j u)) Q E s) :
    OpR X f (rI C fun i j => .int (g i j)) := by
  intro pins s σ H x y v u Q I rx ry h
  obtain ⟨i, j, rfl, rfl, hc, q⟩ := h
  obtain ⟨t, rfl⟩ := rx
  obtain ⟨t', rfl⟩ := ry
  exact rule i j t t' s _ _ hc ⟨.int (g i j), H, I.tok _, ⟨_, rfl⟩, q⟩
theorem opI0 {f : Value → Value → Sem Value} {g : Int → Int → Int}
    (rule : ∀ (i j : Int) (t u : Tok) (s : Shared) (Q : Value → Shared → Prop) (E : Value → Shared → Prop), Q (.int (g i j) s.toks) { s with toks := s.toks + 1 } → wpAny (model X.prog X.w) X.A (f (.int i t) (.int j u)) Q E s) :
    OpR X f (rI0 fun i j => .int (g i j)) := by
  intro pins s σ H x y v u Q I rx ry h
  obtain ⟨i, j, rfl, rfl, q⟩ := h
  obtain ⟨t, rfl⟩ := rx
  obtain ⟨t', rfl⟩ := ry
  exact rule i j t t' s _ _ ⟨.int (g i j), H, I.tok _, ⟨_, rfl⟩, q⟩
theorem opB0 {f : Value → Value → Sem Value} {g : Int → Int → Bool}
    (rule : ∀ (i j : Int) (t u : Tok) (s : Shared) (Q : Value → Shared → Prop) (E : Value → Shared → Prop), Q (.bool (g i j)) s → wpAny (model X.prog X.w) X.A (f (.int i t) (.int j u)) Q E s) :
    OpR X f (rI0 fun i j => .bl (g i j)) := by
  intro pins s σ H x y v u Q I rx ry h
  obtain ⟨i, j, rfl, rfl, q⟩ := h
  obtain ⟨t, rfl⟩ := rx
  obtain ⟨t', rfl⟩ := ry
  exact rule i j t t' s _ _ ⟨.bl (g i j), H, I, rfl, q⟩

def CDiv (i j : Int) : Prop := 0 < j ∧ j < 1073741824
def CPow (i j : Int) : Prop := 0 ≤ j ∧ j ≤ 1000000 ∧ i.natAbs < 2 ^ 64
def CMul (i j : Int) : Prop := (-(2 ^ 64) < i ∧ i < 2 ^ 64) ∨ (-(2 ^ 64) < j ∧ j < 2 ^ 64)
theorem CMul.ok {i j : Int} (h : CMul i j) : IntMulOk i j := by
  rcases h with ⟨h1, h2⟩ | ⟨h1, h2⟩
  · exact .of_left (intBits_le_64 h1 h2)
  · exact .of_right (intBits_le_64 h1 h2)
theorem op_add : OpR X (binaryOp .Add) (rI0 fun i j => .int (i + j)) := opI0 fun _ _ _ _ _ _ _ q => add_int q
theorem op_sub : OpR X (binaryOp .Sub) (rI0 fun i j => .int (i - j)) := opI0 fun _ _ _ _ _ _ _ q => sub_int q
theorem op_mul : OpR X (binaryOp .Mult) (rI CMul fun i j => .int (i * j)) := opI fun _ _ _ _ _ _ _ hc q => mul_int q hc.ok
/-- // by a positive divisor -/
theorem op_fdiv : OpR X (binaryOp .FloorDiv) (rI CDiv fun i j => .int (i / j)) := opI fun i j _ _ _ _ _ hc q => by
  have h1 : (0 : Int) < j := hc.1
  have h2 : j < 1073741824 := hc.2
  exact floordiv_int (by omega) (by rw [Int.fdiv_eq_ediv_of_nonneg i (by omega)]; exact q) (.inl (PyProof.noPylong_small (by omega)))
/-- % by a positive divisor of any size -/
theorem op_mod : OpR X (binaryOp .Mod) (rI (fun _ j => 0 < j) fun i j => .int (i % j)) := opI fun i j _ _ _ _ _ hc q => by
  have h1 : (0 : Int) < j := hc
  exact mod_int' (by omega) (by rw [Int.fmod_eq_emod_of_nonneg i (by omega)]; exact q)
theorem op_pow : OpR X (binaryOp .Pow) (rI CPow fun i j => .int (i ^ j.toNat)) := opI fun _ _ _ _ _ _ _ hc q => pow_int_small hc.1 hc.2.1 hc.2.2 q
theorem unI {f : Value → Sem Value} {g : Int → Int}
    (rule : ∀ (i : Int) (t : Tok) (s : Shared) (Q : Value → Shared → Prop) (E : Value → Shared → Prop), Q (.int (g i) s.toks) { s with toks := s.toks + 1 } → wpAny (model X.prog X.w) X.A (f (.int i t)) Q E s) :
    UnR X f (rU fun i => .int (g i)) := by
  intro pins s σ H x v Q I rx h
  obtain ⟨i, rfl, q⟩ := h
  obtain ⟨t, rfl⟩ := rx
  exact rule i t s _ _ ⟨.int (g i), H, I.tok _, ⟨_, rfl⟩, q⟩
theorem un_neg : UnR X (unaryOp .USub) (rU fun i => .int (-i)) := unI fun _ _ _ _ _ q => neg_int q
/-! ### bools among ints: n += (a < b) -/
end

/-! ### comparisons -/
/-- the scalars that == tells apart as data does -/
def scal : V → V → Bool
  | .non, .non => true | .non, .int _ => true | .int _, .non => true | .non, .bl _ => true | .bl _, .non => true | .non, .str _ => true | .str _, .non => true
  | .int _, .int _ => true | .bl _, .bl _ => true | .str _, .str _ => true | .byt _, .byt _ => true
  | .int _, .str _ => true | .str _, .int _ => true | .bl _, .str _ => true | .str _, .bl _ => true
  | _, _ => false
def rEq : R2 := fun x y H Q => scal x y = true ∧ Q (.bl (decide (x = y))) H
def rNe : R2 := fun x y H Q => scal x y = true ∧ Q (.bl (!decide (x = y))) H

theorem dec_int {i j : Int} : decide (V.int i = V.int j) = (i == j) := by
  rw [Bool.eq_iff_iff]
  simp
theorem dec_bl {i j : Bool} : decide (V.bl i = V.bl j) = (i == j) := by
  rw [Bool.eq_iff_iff]
  simp
theorem dec_str {i j : Str} : decide (V.str i = V.str j) = (i == j) := by
  rw [Bool.eq_iff_iff]
  simp
theorem dec_byt {i j : Array UInt8} : decide (V.byt i = V.byt j) = (i.toList == j.toList) := by
  rw [Bool.eq_iff_iff]
  cases i
  cases j
  simp

section
variable {X : Cx} {a b c : Expr} {ta tb tc : TE} {pos : Pos}
theorem fin_bl {pins : List (Addr × Obj)} {σ : St} {H : Hp} {s : Shared} {Q : VK} {k k' : Bool} (I : Inv X pins σ H s) (q : Q (.bl k) H) (e : k = k') : EP X pins σ Q (.bool k') s := by
  subst e
  exact ⟨.bl k, H, I, rfl, q⟩
theorem op_eq : OpR X (compareOp .Eq) rEq := by
  intro pins s σ H x y v u Q I rx ry h
  obtain ⟨hs, q⟩ := h
  cases x with
  | non =>
    cases rx
    cases y with
    | non => cases ry; exact PySem.EqNone.eq_none_none (fin_bl I q (by simp))
    | bl j => cases ry; exact PySem.EqNone.eq_none_bool (fin_bl I q (by simp))
    | int j => obtain ⟨t', rfl⟩ := ry; exact PySem.EqNone.eq_none_int (fin_bl I q (by simp))
    | str j => obtain ⟨t', rfl⟩ := ry; exact PySem.EqNone.eq_none_str (fin_bl I q (by simp))
    | _ => exact absurd (show false = true from hs) Bool.false_ne_true
  | bl i =>
    cases rx
    cases y with
    | non => cases ry; exact PySem.EqNone.eq_bool_none (fin_bl I q (by simp))
    | bl j => cases ry; exact eq_bool (fin_bl I q dec_bl)
    | str j => obtain ⟨t', rfl⟩ := ry; exact PySem.EqMixed.eq_bool_str (fin_bl I q (by simp))
    | _ => exact absurd (show false = true from hs) Bool.false_ne_true
  | int i =>
    obtain ⟨t, rfl⟩ := rx
    cases y with
    | non => cases ry; exact PySem.EqNone.eq_int_none (fin_bl I q (by simp))
    | int j => obtain ⟨t', rfl⟩ := ry; exact eq_int (fin_bl I q dec_int)
    | str j => obtain ⟨t', rfl⟩ := ry; exact PySem.EqMixed.eq_int_str (fin_bl I q (by simp))
    | _ => exact absurd (show false = true from hs) Bool.false_ne_true
  | str i =>
    obtain ⟨t, rfl⟩ := rx
    cases y with
    | non => cases ry; exact PySem.EqNone.eq_str_none (fin_bl I q (by simp))
    | bl j => cases ry; exact PySem.EqMixed.eq_str_bool (fin_bl I q (by simp))
    | int j => obtain ⟨t', rfl⟩ := ry; exact PySem.EqMixed.eq_str_int (fin_bl I q (by simp))
    | str j => obtain ⟨t', rfl⟩ := ry; exact eq_str (fin_bl I q dec_str)
    | _ => exact absurd (show false = true from hs) Bool.false_ne_true
  | byt i =>
    obtain ⟨t, rfl⟩ := rx
    cases y with
    | byt j => obtain ⟨t', rfl⟩ := ry; exact PySem.W.eq_bytes (fin_bl I q dec_byt)
    | _ => exact absurd (show false = true from hs) Bool.false_ne_true
  | _ => cases y <;> exact absurd (show false = true from hs) Bool.false_ne_true
theorem op_ne : OpR X (compareOp .NotEq) rNe := by
  intro pins s σ H x y v u Q I rx ry h
  obtain ⟨hs, q⟩ := h
  cases x with
  | non =>
    cases rx
    cases y with
    | non => cases ry; exact PySem.EqNone.ne_none_none (fin_bl I q (by simp))
    | bl j => cases ry; exact PySem.EqNone.ne_none_bool (fin_bl I q (by simp))
    | int j => obtain ⟨t', rfl⟩ := ry; exact PySem.EqNone.ne_none_int (fin_bl I q (by simp))
    | str j => obtain ⟨t', rfl⟩ := ry; exact PySem.EqNone.ne_none_str (fin_bl I q (by simp))
    | _ => exact absurd (show false = true from hs) Bool.false_ne_true
  | bl i =>
    cases rx
    cases y with
    | non => cases ry; exact PySem.EqNone.ne_bool_none (fin_bl I q (by simp))
    | bl j => cases ry; exact ne_bool (fin_bl I q (congrArg not dec_bl))
    | str j => obtain ⟨t', rfl⟩ := ry; exact PySem.EqMixed.ne_bool_str (fin_bl I q (by simp))
    | _ => exact absurd (show false = true from hs) Bool.false_ne_true
  | int i =>
    obtain ⟨t, rfl⟩ := rx
    cases y with
    | non => cases ry; exact PySem.EqNone.ne_int_none (fin_bl I q (by simp))
    | int j => obtain ⟨t', rfl⟩ := ry; exact ne_int (fin_bl I q (congrArg not dec_int))
    | str j => obtain ⟨t', rfl⟩ := ry; exact PySem.EqMixed.ne_int_str (fin_bl I q (by simp))
    | _ => exact absurd (show false = true from hs) Bool.false_ne_true
  | str i =>
    obtain ⟨t, rfl⟩ := rx
    cases y with
    | non => cases ry; exact PySem.EqNone.ne_str_none (fin_bl I q (by simp))
    | bl j => cases ry; exact PySem.EqMixed.ne_str_bool (fin_bl I q (by simp))
    | int j => obtain ⟨t', rfl⟩ := ry; exact PySem.EqMixed.ne_str_int (fin_bl I q (by simp))
    | str j => obtain ⟨t', rfl⟩ := ry; exact ne_str (fin_bl I q (congrArg not dec_str))
    | _ => exact absurd (show false = true from hs) Bool.false_ne_true
  | byt i =>
    obtain ⟨t, rfl⟩ := rx
    cases y with
    | byt j => obtain ⟨t', rfl⟩ := ry; exact PySem.W.ne_bytes (fin_bl I q (congrArg not dec_byt))
    | _ => exact absurd (show false = true from hs) Bool.false_ne_true
  | _ => cases y <;> exact absurd (show false = true from hs) Bool.false_ne_true

theorem op_lt : OpR X (compareOp .Lt) (rI0 fun i j => .bl (decide (i < j))) := opB0 fun _ _ _ _ _ _ _ q => lt_int q
theorem op_le : OpR X (compareOp .LtE) (rI0 fun i j => .bl (decide (i ≤ j))) := opB0 fun _ _ _ _ _ _ _ q => le_int q
theorem op_gt : OpR X (compareOp .Gt) (rI0 fun i j => .bl (decide (j < i))) := opB0 fun _ _ _ _ _ _ _ q => gt_int q
theorem nomark (b : Expr) {op : CmpOp} (h : op ≠ .In := by decide) (h2 : op ≠ .NotIn := by decide) : behindInMarks op b = false := by
  have e1 : (op == CmpOp.In) = false := by cases op <;> first | rfl | exact absurd rfl h
  have e2 : (op == CmpOp.NotIn) = false := by cases op <;> first | rfl | exact absurd rfl h2
  cases b <;> simp [behindInMarks, e1, e2]
/-- a comparison as a value; hm: nomark b, or (for in, not in) by with_unfolding_all rfl -/
theorem pe_cmpR {op : CmpOp} {r : R2} (ho : OpR X (compareOp op) r) (ha : PE X a ta) (hb : PE X b tb) (hm : behindInMarks op b = false) : PE X (.Compare a [op] [b] pos) (tOp r ta tb) := by
  intro pins s σ H Q I h
  exact wpAny_Compare1 (binT ha hb I h fun v u s2 x y H2 I2 rx ry q => ho pins s2 σ H2 x y v u Q I2 rx ry q) hm
/-- a reading of a value as a test -/
def tTest (t : TE) : TT := fun σ H Q => t σ H fun x H' => ∃ k, x = .bl k ∧ Q k H'
theorem pt_cmpR {op : CmpOp} {r : R2} (ho : OpR X (compareOp op) r) (ha : PE X a ta) (hb : PE X b tb) (hm : behindInMarks op b = false) : PT X (.Compare a [op] [b] pos) (tTest (tOp r ta tb)) := by
  intro pins s σ H Q I h
  refine wpAny_isTrue_Compare1 (thn (ha pins s σ H _ I h) fun v s1 ⟨x, H1, I1, r1, q1⟩ => thn (hb pins s1 σ H1 _ I1 q1) fun u s2 ⟨y, H2, I2, r2, q2⟩ =>
    thn (ho pins s2 σ H2 x y v u _ I2 r1 r2 q2) fun c s3 ⟨z, H3, I3, r3, k, e, q3⟩ => ?_) hm
  subst e
  cases r3
  exact wpAny_truthy_bool ⟨H3, I3, q3⟩
/-- a op1 b op2 c -/
def tChain (r r' : R2) (ta tb tc : TE) : TE := fun σ H Q => ta σ H fun x H1 => tb σ H1 fun y H2 => r x y H2 fun z H3 => ∃ k, z = .bl k ∧
  (if k = true then tc σ H3 fun w' H4 => r' y w' H4 Q else Q (.bl false) H3)
theorem pe_chain {op op' : CmpOp} {r r' : R2} (ho : OpR X (compareOp op) r) (ho' : OpR X (compareOp op') r') (ha : PE X a ta) (hb : PE X b tb) (hc : PE X c tc)
    (hm : lastMarks [op, op'] [b, c] = false := by with_unfolding_all rfl) : PE X (.Compare a [op, op'] [b, c] pos) (tChain r r' ta tb tc) := by
  intro pins s σ H Q I h
  refine Compare_chain (thn (ha pins s σ H _ I h) fun v s1 ⟨x, H1, I1, r1, q1⟩ => chain_link (thn (hb pins s1 σ H1 _ I1 q1) fun u s2 ⟨y, H2, I2, r2, q2⟩ =>
    thn (ho pins s2 σ H2 x y v u _ I2 r1 r2 q2) fun d s3 ⟨z, H3, I3, r3, k, e, q3⟩ => ?_)) hm
  subst e
  cases r3
  refine wpAny_truthy_bool ?_
  cases k with
  | false => exact ite_ff ⟨.bl false, H3, I3, rfl, q3⟩
  | true => exact ite_tt (chain_last (thn (hc pins s3 σ H3 _ I3 q3) fun w' s4 ⟨z', H4, I4, r4, q4⟩ => ho' pins s4 σ H4 y z' u w' Q I4 r2 r4 q4))
/-! ### truth -/
theorem line63 : (sizeLine : Nat) < 2 ^ 63 := by rw [sizeLine_eq]; decide
/-! ### strs and bytes -/
/-! ### scalar builtins, by CallR -/
theorem vals1 {x : V} {us : List Value} (r : Vals [x] us) : ∃ u, us = [u] ∧ RelV x u := by
  cases r with
  | cons r1 r2 => cases r2; exact ⟨_, rfl, r1⟩
theorem vals2 {x y : V} {us : List Value} (r : Vals [x, y] us) : ∃ u w', us = [u, w'] ∧ RelV x u ∧ RelV y w' := by
  cases r with
  | cons r1 r2 =>
    cases r2 with
    | cons r3 r4 => cases r4; exact ⟨_, _, rfl, r1, r3⟩
theorem call_min2 (hc : X.calm = true) : CallR X (.builtin "min") (fun xs H Q => ∃ i j, xs = [.int i, .int j] ∧ Q (.int (if j < i then j else i)) H) := by
  intro pins s σ H xs us Q I r h
  obtain ⟨i, j, rfl, q⟩ := h
  obtain ⟨u, w', rfl, ⟨t, rfl⟩, ⟨t', rfl⟩⟩ := vals2 r
  refine min_two_ints (I.ok.hd hc) fun h' tk k => ⟨_, H, I.kept k, ?_, q⟩
  by_cases hj : j < i
  · rw [if_pos hj, if_pos hj]; exact ⟨_, rfl⟩
  · rw [if_neg hj, if_neg hj]; exact ⟨_, rfl⟩
end
end L2

namespace L2
open PySem PySem.Spec PyProof.Rows

/-! ### an instance, its attributes a map -/
structure ObjM (h : Heap) (x dx C : Addr) (mA : Str → Option Value) : Prop where
  obj : h.get? x = some (PySem.W.instObj C dx)
  ns : h.Ns1 dx mA
  ne : dx ≠ x

theorem lookIn_ns {h : Heap} {dx : Addr} {mA : Str → Option Value} (n : h.Ns1 dx mA) : ∃ od, h.get? dx = some od ∧ ∀ name, PySem.W.lookIn name od = some (mA name) := by
  obtain ⟨o, es, ep, ho, hd, hk, _, hm⟩ := n
  refine ⟨o, ho, fun name => ?_⟩
  have e := hm name
  unfold nsFind findBy at e
  rw [← Array.find?_toList] at e
  unfold PySem.W.lookIn
  rw [hd]
  dsimp only
  split
  · rename_i y q
    rw [q] at e
    exact congrArg some e
  · rename_i q
    rw [q] at e
    have a : es.toList.any (·.refKey) = false := by
      rw [List.any_eq_false]
      intro y hy
      obtain ⟨z, t, hkey⟩ := hk y (Array.mem_toList_iff.mp hy)
      simp [DictEntry.refKey, hkey]
    have a' : ¬ es.toList.any (·.refKey) = true := by rw [a]; exact Bool.false_ne_true
    rw [if_neg a']
    exact congrArg some e

theorem ObjM.look {h : Heap} {x dx C : Addr} {mA : Str → Option Value} (I : ObjM h x dx C mA) : ∃ od, PySem.W.InstAt h x (PySem.W.instObj C dx) C (some od) ∧ ∀ name, PySem.W.lookIn name od = some (mA name) :=
  let ⟨od, ho, hl⟩ := lookIn_ns I.ns
  ⟨od, ⟨I.obj, rfl, rfl, ho⟩, hl⟩

section
variable {prog : Program} {w : World} {A : Around} {E : Value → Shared → Prop} {s : Shared} {K : PySem.W.Frag} {x dx C f : Addr} {mA : Str → Option Value} {name : Str} {v : Value}

end

/-! ### the attributes as a list of pairs -/
section
variable {P : Program} {w : World} {H H' : Hp} {h h' : Heap} {a C dx : Addr} {fs fs' : List (Str × V)}
theorem ins_get (hok : HOk P w H h) (e : H a = some (.ins C dx fs)) : ∃ mA, ObjM h a dx C mA ∧ (∀ f, RelO (fs.lookup f) (mA f)) ∧ PySem.Within mA (fs.map (·.1)) ∧ fs.length ≤ 1000 ∧ H dx = some (.own a) := by
  obtain ⟨d, z, ne, ob, mA, n, r, q⟩ := (show ObjOk P w H h a (.ins C dx fs) from hok a _ e)
  exact ⟨mA, ⟨ob, n, ne⟩, r, q, z, d⟩
end

/-! ### what of the text a class must have -/
structure Cls (K : PySem.W.Frag) (C : Addr) : Prop where
  pg : PySem.W.plainGet K C Str.empty = true
  hd : PySem.W.hasDictIn K C = true
  po : PySem.W.plainOver K C = true
  sa : PySem.W.findIn K (.ref C) "__setattr__" = some (some (.builtin "object.__setattr__"))
theorem Cls.get {K : PySem.W.Frag} {C : Addr} (c : Cls K C) (f : Str) : PySem.W.plainGet K C f = true := c.pg
/-- a constant of the class -/
structure Con (K : PySem.W.Frag) (C : Addr) (f : Str) (v : V) (u : Value) : Prop where
  at_ : PySem.W.findIn K (.ref C) f = some (some u)
  rel : RelV v u
  get : PySem.W.specialIn K u "__get__" = some none
  cp : PySem.W.copiedNames.contains f = false
/-- a method: a plain def of the class or of one above it -/
structure Meth (K : PySem.W.Frag) (C : Addr) (m : Str) (f : Addr) : Prop where
  at_ : PySem.W.findIn K (.ref C) m = some (some (.ref f))
  fn : PySem.W.isFn K (.ref f) = true
  kp : PySem.W.keepIn K (.ref f) = true

section
variable {X : Cx} {pins : List (Addr × Obj)} {σ : St} {H : Hp} {s : Shared} {a C dx : Addr} {fs : List (Str × V)} {f : Str} {v : V} {A : Around} {E : Value → Shared → Prop}

end

/-! ### readings and rules -/
section
variable {X : Cx} {o e value : Expr} {f : Str} {pos pos' tpos : Pos} {ta tv : TE}
end

/-! ### isinstance -/
section
variable {X : Cx} {pins : List (Addr × Obj)} {σ : St} {H : Hp} {s : Shared} {A : Around} {E : Value → Shared → Prop} {Q : Value → Shared → Prop} {c : Value} {b : Bool}
/-- the type of a value, as the fragment's deciders take it; for an instance its class -/
inductive TyOf (K : PySem.W.Frag) (H : Hp) : V → Value → Prop where
  | non : TyOf K H .non (.type "NoneType")
  | bl (x : Bool) : TyOf K H (.bl x) (.type "bool")
  | int (i : Int) : TyOf K H (.int i) (.type "int")
  | str (x : Str) : TyOf K H (.str x) (.type "str")
  | flt (x : UInt64) : TyOf K H (.flt x) (.type "float")
  | lst {a : Addr} {xs : List V} (e : H a = some (.lst xs)) : TyOf K H (.ref a) (.type "list")
  | frz {a : Addr} {o : Obj} {xs : List V} (e : H a = some (.frz o (.lst xs))) : TyOf K H (.ref a) (.type "list")
  | tup {a : Addr} {xs : List V} (e : H a = some (.tup xs)) : TyOf K H (.ref a) (.type "tuple")
  | dK {a : Addr} {kvs : List (Key × V)} (e : H a = some (.dK kvs)) : TyOf K H (.ref a) (.type "dict")
  | dT {a : Addr} {kvs : List (List Key × V)} (e : H a = some (.dT kvs)) : TyOf K H (.ref a) (.type "dict")
  | ins {a C dx : Addr} {fs : List (Str × V)} (e : H a = some (.ins C dx fs)) (cl : Cls K C) (ha : PySem.W.findIn K (.ref C) "__class__" = some (some (.builtin "object.__class__")))
      (hn : PySem.W.specialIn K (.builtin "object.__class__") "__get__" = some (some (.builtin "getset_descriptor.__get__"))) (htk : PySem.W.takesIn K (.builtin "object.__class__") = some true)
      (hm : PySem.W.mroIn K C (.type "object") = some true) : TyOf K H (.ref a) (.ref C)
/-- isinstance(x, c) for one class c, a built-in or an own one: kitOne's answer -/
theorem isinst_ok {x : V} {u t : Value} (I : Inv X pins σ H s) (rx : RelV x u) (ty : TyOf X.K H x t) (e : PySem.W.kitOne X.K t c = some b) (h : ∀ tk, Q (.bool b) { s with toks := tk }) :
    wpAny (model X.prog X.w) A (call (.builtin "isinstance") [u, c]) Q E s := by
  cases ty with
  | non => cases (show u = Value.none from rx); exact PySem.W.kia_one PySem.W.kitx_none I.kIn True.intro e (fun z => nomatch z) h
  | bl y => cases (show u = Value.bool y from rx); exact PySem.W.kia_one PySem.W.kitx_bool I.kIn True.intro e (fun z => nomatch z) h
  | int i => obtain ⟨t, q⟩ := (show ∃ t, u = Value.int i t from rx); cases q; exact PySem.W.kia_one PySem.W.kitx_int I.kIn True.intro e (fun z => nomatch z) h
  | str y => obtain ⟨t, q⟩ := (show ∃ t, u = Value.str y t from rx); cases q; exact PySem.W.kia_one PySem.W.kitx_str I.kIn True.intro e (fun z => nomatch z) h
  | flt y => obtain ⟨t, q⟩ := (show ∃ t, u = Value.float y t from rx); cases q; exact PySem.W.kia_one PySem.W.kitx_float I.kIn True.intro e (fun z => nomatch z) h
  | @lst a xs ea =>
    cases (show u = Value.ref a from rx)
    obtain ⟨_, _, n, _, h1⟩ := (show ObjOk X.prog X.w H s.heap a (.lst xs) from I.hok a _ ea)
    exact PySem.W.kia_one PySem.W.kitx_list I.kIn ⟨_, h1, rfl⟩ e (fun z => nomatch z) h
  | @frz a ob xs ea =>
    cases (show u = Value.ref a from rx)
    obtain ⟨_, _, _, n, _, h1⟩ := (show ObjOk X.prog X.w H s.heap a (.frz ob (.lst xs)) from I.hok a _ ea)
    exact PySem.W.kia_one PySem.W.kitx_list I.kIn ⟨_, h1, rfl⟩ e (fun z => nomatch z) h
  | @tup a xs ea =>
    cases (show u = Value.ref a from rx)
    obtain ⟨_, _, _, p⟩ := (show ObjOk X.prog X.w H s.heap a (.tup xs) from I.hok a _ ea)
    obtain ⟨o, h1, h2, _⟩ := p
    exact PySem.W.kia_one PySem.W.kitx_tuple I.kIn ⟨o, h1, h2⟩ e (fun z => nomatch z) h
  | @dK a kvs ea =>
    cases (show u = Value.ref a from rx)
    obtain ⟨_, _, vs, _, p⟩ := (show ObjOk X.prog X.w H s.heap a (.dK kvs) from I.hok a _ ea)
    obtain ⟨o, es, ep, h1, h2, _⟩ := p
    exact PySem.W.kia_one PySem.W.kitx_dict I.kIn ⟨o, h1, h2.1⟩ e (fun z => nomatch z) h
  | @dT a kvs ea =>
    cases (show u = Value.ref a from rx)
    obtain ⟨_, _, xs, _, o, es, ep, h1, h2, _⟩ := (show ObjOk X.prog X.w H s.heap a (.dT kvs) from I.hok a _ ea)
    exact PySem.W.kia_one PySem.W.kitx_dict I.kIn ⟨o, h1, h2.1⟩ e (fun z => nomatch z) h
  | @ins a C dx fs ea cl ha hn htk hm =>
    cases (show u = Value.ref a from rx)
    obtain ⟨mA, O, _⟩ := ins_get I.hok ea
    obtain ⟨od, J, _⟩ := O.look
    exact PySem.W.kia_one (PySem.W.kitx_own (cl.get _) cl.hd ha hn htk hm) I.kIn J e (fun z => nomatch z) h
end
end L2

namespace L2
open PySem PySem.Spec PyProof.Rows

/-! ### room -/
structure Room (k : Nat) (A : Around) : Prop where
  hd : A.handled = none
  dp : A.depth + 3 * k + 5 < recursionLimit
  un : A.units + 16 * k + 200 < cLine
theorem Room.mono {j k : Nat} {A : Around} (r : Room k A) (h : j ≤ k) : Room j A := ⟨r.hd, by have := r.dp; omega, by have := r.un; omega⟩
theorem Room.deeper {k : Nat} {A : Around} (r : Room (k + 1) A) (env : Env) : Room k (A.deeper env) :=
  ⟨r.hd, by have := r.dp; show A.depth + 1 + 3 * k + 5 < _; omega, by have := r.un; show A.units + 3 + 16 * k + 200 < _; omega⟩
theorem Room.depth {k : Nat} {A : Around} (r : Room k A) : A.depth < recursionLimit := by have := r.dp; omega
theorem Room.units {k : Nat} {A : Around} (r : Room k A) : A.units + 64 < cLine := by have := r.un; omega
theorem Room.units0 {k : Nat} {A : Around} (r : Room k A) : A.units < cLine := by have := r.un; omega

/-! ### argument lists and displays -/
def tNil : TA := fun _ H Q => Q [] H
def tCons (ta : TE) (tr : TA) : TA := fun σ H Q => ta σ H fun x H1 => tr σ H1 fun xs H2 => Q (x :: xs) H2
section
variable {X : Cx} {e : Expr} {es : List Expr} {te : TE} {t : TA} {pos : Pos}
theorem pa_nil : PA X [] tNil := fun _ _ _ _ H Q I h => Calls.spliced_nil ⟨[], H, I, .nil, h⟩
theorem pa_cons (ha : PE X e te) (hr : PA X es t) (hs : starEach (e :: es) X.env = (false, eval e X.env) :: starEach es X.env := by rfl) : PA X (e :: es) (tCons te t) := by
  intro pos pins s σ H Q I h
  rw [hs]
  show wpAny _ _ (spliced ((false, eval e X.env) :: backTo pos (starEach es X.env))) _ _ s
  refine Calls.spliced_cons (thn (ha pins s σ H _ I h) fun u s1 ⟨x, H1, I1, r1, q1⟩ => ?_)
  exact thn (hr pos pins s1 σ H1 _ I1 q1) fun us s2 ⟨xs, H2, I2, r2, q2⟩ => ⟨x :: xs, H2, I2, .cons r1 r2, q2⟩

/-- a tuple, a list of written items -/
def tTup (t : TA) : TE := fun σ H Q => t σ H fun xs H1 => xs.length ≤ sizeLine ∧ ∀ p, H1 p = none → Q (.ref p) (upd H1 p (.tup xs))
def tLst (t : TA) : TE := fun σ H Q => t σ H fun xs H1 => xs.length ≤ sizeLine ∧ ∀ p, H1 p = none → Q (.ref p) (upd H1 p (.lst xs))
theorem pe_tup {x1} (h : PA X es t) : PE X (.Tuple es x1 pos) (tTup t) := by
  intro pins s σ H Q I hq
  refine wpAny_Tuple_spliced (thn (h pos pins s σ H _ I hq) fun us s1 ⟨xs, H1, I1, r, z, q⟩ => ⟨by rw [← r.length]; exact z, ?_⟩)
  have hf : H1 s1.heap.objs.size = none := I1.hok.fresh (Nat.le_refl _)
  refine ⟨.ref s1.heap.objs.size, upd H1 s1.heap.objs.size (.tup xs), I1.laid (t' := s1.toks) (fun b u e => Heap.get?_push_of_some _ e) (Nat.le_refl _) ?_, rfl, q _ hf⟩
  exact ⟨z, us, r, ⟨_, Heap.get?_push_size _ rfl, rfl, rfl, _, rfl⟩⟩
theorem pe_lst (h : PA X es t) : PE X (.List es pos) (tLst t) := by
  intro pins s σ H Q I hq
  refine wpAny_List_spliced (thn (h pos pins s σ H _ I hq) fun us s1 ⟨xs, H1, I1, r, z, q⟩ => ⟨by rw [← r.length]; exact z, ?_⟩)
  have hf : H1 s1.heap.objs.size = none := I1.hok.fresh (Nat.le_refl _)
  refine ⟨.ref s1.heap.objs.size, upd H1 s1.heap.objs.size (.lst xs), I1.laid (t' := s1.toks) (fun b u e => Heap.get?_push_of_some _ e) (Nat.le_refl _) ?_, rfl, q _ hf⟩
  exact ⟨z, us, 0, r, Heap.get?_push_size _ rfl⟩
end

/-! ### what a def promises -/
/-- a def's promise: the bound arguments in the parameters' order, the heap, the wanted end, the wanted exception -/
abbrev Sp := List V → Hp → VK → XK → Prop
/-- how an exception lies behind a call (file 08 gives it): the callers' frames, abstract heap and state ahead of the call, the wish, the exception, the state -/
abbrev CXT := List Env → Hp → Shared → XK → Value → Shared → Prop

/-- the state at a call -/
structure Env0 (P : Program) (w : World) (K : PySem.W.Frag) (mg : Str → Option Value) (base : Heap) (A : Around) (outer : List Env) (s : Shared) (H : Hp) : Prop where
  frames : A.frames = some outer
  mod : Mod K mg base
  bs : ∀ b o, base.get? b = some o → s.heap.get? b = some o ∧ H b = none
  bsz : base.objs.size ≤ s.heap.objs.size
  funs : s.heap.FunFrames base outer
  frf : ∀ b ∈ frs outer, H b = none
  hok : HOk P w H s.heap
  bare : AllBare s.gens
/-- a call's end -/
def CE (outer : List Env) (P : Program) (w : World) (H : Hp) (s : Shared) (Q : VK) (u : Value) (s' : Shared) : Prop :=
  ∃ v H', s'.os = s.os ∧ AllBare s'.gens ∧ Un (frs outer) [] H H' s.heap s'.heap ∧ HOk P w H' s'.heap ∧ RelV v u ∧ Q v H'
def CR (CX : CXT) (outer : List Env) (P : Program) (w : World) (H : Hp) (s : Shared) (Q : VK) (E : XK) (r : Result) (s' : Shared) : Prop :=
  match r with
  | .ok (.ret u) => CE outer P w H s Q u s'
  | .ok _ => False
  | .error e => CX outer H s E e s'
structure FnOk (P : Program) (w : World) (K : PySem.W.Frag) (mg : Str → Option Value) (base : Heap) (CX : CXT) (k : Nat) (f : Addr) (fd : FuncData) (ps : List Str) (sp : Sp) : Prop where
  len : ∀ vs H Q E, sp vs H Q E → vs.length = ps.length
  run : ∀ (A : Around) (outer : List Env) (s : Shared) (H : Hp) (args : Args) (us : List Value) (vs : List V) (Q : VK) (E : XK), Room k A → Env0 P w K mg base A outer s H → BindsTo s fd args (ps.zip us) → Vals vs us → sp vs H Q E →
    codeAny (model P w) A (.call (.ref f) args) (CR CX outer P w H s Q E) s
section
variable {X : Cx} {pins : List (Addr × Obj)} {σ : St} {H : Hp} {s s' : Shared}
/-- from a body: what a callee wants -/
theorem Inv.env0 (I : Inv X pins σ H s) : Env0 X.prog X.w X.K X.mg X.base X.A X.stack s H :=
  ⟨I.ok.frames, I.ok.mod, I.bs, Nat.le_trans I.ok.bsz I.sz, I.stack, I.stkFree, I.hok, I.bare⟩
/-- behind a call -/
theorem Inv.after {Q : VK} {u : Value} (I : Inv X pins σ H s) (h : CE X.stack X.prog X.w H s Q u s') : EP X pins σ Q u s' := by
  obtain ⟨v, H', os, bare, un, hok, r, q⟩ := h
  obtain ⟨hh, g, d, t, os'⟩ := s'
  obtain rfl : os' = s.os := os
  exact ⟨v, H', I.call (h' := hh) (g' := g) (d' := d) (t' := t) (ch := []) un hok bare (fun b z => absurd z (by simp)), r, q⟩
end

/-! ### calls -/
/-- f(..): the written arguments, then the defaults dvs; E: what is wanted of an exception -/
def tCall (sp : Sp) (dvs : List V) (E : XK) (t : TA) : TE := fun σ H Q => t σ H fun vs H1 => sp (vs ++ dvs) H1 Q E
/-- how the parameters are bound: us the positional arguments, kw the keywords' values by name, ds the defaults that fill up -/
def Binds (K : PySem.W.Frag) (fd : FuncData) (ps : List Str) (ds : List Value) : Prop :=
  ∀ (s : Shared) (us : List Value), K.In s.heap → (us ++ ds).length = ps.length → BindsTo s fd ⟨us, []⟩ (ps.zip (us ++ ds))
/-- every parameter is given -/
theorem Binds.all {K : PySem.W.Frag} {fd : FuncData} {ps : List Str} (h : ∀ us : List Value, us.length = ps.length → bindArgs fd ⟨us, []⟩ = pure (ps.zip us)) : Binds K fd ps [] := fun s us _ hl => by
  rw [List.append_nil] at hl ⊢
  exact .of_eq (h us hl)

/-- an exception of a callee reaches what this body wants of exceptions -/
def Passes (CX : CXT) (X : Cx) (E : XK) : Prop := ∀ (pins : List (Addr × Obj)) (σ : St) (H : Hp) (s : Shared) (e : Value) (s' : Shared), Inv X pins σ H s → CX X.stack H s E e s' → X.xe e s'

section
variable {X : Cx} {CX : CXT} {k : Nat} {f C : Addr} {fd : FuncData} {ps : List Str} {sp : Sp} {dvs : List V} {ds : List Value} {E : XK} {x m : Str} {p pos apos : Pos} {e o : Expr} {es : List Expr} {ta : TE} {t : TA}

/-- the callee runs -/
theorem run_fn {pins : List (Addr × Obj)} {σ : St} {H : Hp} {s : Shared} {Q : VK} {us : List Value} {vs : List V} (F : FnOk X.prog X.w X.K X.mg X.base CX k f fd ps sp) (hr : Room k X.A) (hb : Binds X.K fd ps ds) (hd : Vals dvs ds) (hx : Passes CX X E)
    (I : Inv X pins σ H s) (r : Vals vs us) (h : sp (vs ++ dvs) H Q E) : wpAny (model X.prog X.w) X.A (call (.ref f) us) (EP X pins σ Q) X.xe s := by
  have r2 : Vals (vs ++ dvs) (us ++ ds) := r.append hd
  have hl : (us ++ ds).length = ps.length := by rw [← r2.length]; exact F.len _ _ _ _ h
  refine wpAny_call (codeAny_mono (F.run X.A X.stack s H ⟨us, []⟩ (us ++ ds) (vs ++ dvs) Q E hr I.env0 (hb s us I.kIn hl) r2 h) fun r s' hq => ?_)
  cases r with
  | error e => exact hx pins σ H s e s' I hq
  | ok fl =>
    cases fl with
    | ret u => exact I.after hq
    | next => exact False.elim hq
    | brk => exact False.elim hq
    | cont => exact False.elim hq

theorem pe_call (F : FnOk X.prog X.w X.K X.mg X.base CX k f fd ps sp) (hr : Room k X.A) (hg : Gl X x) (hm : X.mg x = some (.ref f)) (hk : PySem.W.keepIn X.K (.ref f) = true) (hb : Binds X.K fd ps ds) (hd : Vals dvs ds) (hx : Passes CX X E)
    (ha : PA X (e :: es) t) (hdb : (x == ("__debug__" : Str)) = false := by decide) (he : starEach (e :: es) X.env = (false, eval e X.env) :: starEach es X.env := by rfl) (hpl : (backTo pos (starEach es X.env)).any (·.1) = false := by rfl) :
    PE X (.Call (.Name x p) (e :: es) [] pos) (tCall sp dvs E t) := by
  intro pins s σ H Q I h
  refine wpAny_Call_Name_kw (ld_glob I hg hm ?_ hdb)
  refine PySem.W.callWith_K (h₀ := X.base) I.ok.mod.kin hk (thn (ha pos pins s σ H _ I h) fun us s1 ⟨vs, H1, I1, r, q⟩ => ⟨I1.kIn, ?_⟩) he hpl
  exact run_fn F hr hb hd hx I1 r q
theorem pe_call0 (F : FnOk X.prog X.w X.K X.mg X.base CX k f fd ps sp) (hr : Room k X.A) (hg : Gl X x) (hm : X.mg x = some (.ref f)) (hk : PySem.W.keepIn X.K (.ref f) = true) (hb : Binds X.K fd ps ds) (hd : Vals dvs ds) (hx : Passes CX X E)
    (hdb : (x == ("__debug__" : Str)) = false := by decide) : PE X (.Call (.Name x p) [] [] pos) (tCall sp dvs E tNil) := by
  intro pins s σ H Q I h
  refine wpAny_Call_Name_kw (ld_glob I hg hm ?_ hdb)
  exact PySem.W.callWith_K0 I.kIn hk (run_fn (us := []) F hr hb hd hx I .nil h)

/-- what a class must have to be made -/
structure Mk (K : PySem.W.Frag) (C f : Addr) : Prop where
  makes : PySem.W.makesIn K C = true
  init : PySem.W.findIn K (.ref C) "__init__" = some (some (.ref f))
  fn : PySem.W.isFn K (.ref f) = true
  kp : PySem.W.keepIn K (.ref C) = true

end

/-! ### keywords -/
section
variable {X : Cx} {CX : CXT} {k : Nat} {f C : Addr} {fd : FuncData} {ps ks : List Str} {sp : Sp} {E : XK} {x m : Str} {p pos apos kpos : Pos} {e o : Expr} {es : List Expr} {kws : List Keyword} {te ta : TE} {t tk : TA} {nm : Option Str}
/-- how a call with keywords binds: g puts the positional values us and the keywords' values ws (names ks) in the parameters' order, defaults among them -/
structure KBinds (K : PySem.W.Frag) (fd : FuncData) (ps ks : List Str) (g : List Value → List Value → List Value) (gV : List V → List V → List V) : Prop where
  to : ∀ (s : Shared) (us ws : List Value), K.In s.heap → (g us ws).length = ps.length → BindsTo s fd ⟨us, ks.zip ws⟩ (ps.zip (g us ws))
  rel : ∀ {vs : List V} {us : List Value} {zs : List V} {ws : List Value}, Vals vs us → Vals zs ws → Vals (gV vs zs) (g us ws)
variable {g : List Value → List Value → List Value} {gV : List V → List V → List V}
end

/-! ### a def's body keeps its promise -/
/-- names: the parameters first -/
structure FnScope (N P : List Str) (sc : Scope) : Prop where
  kind : sc.kind = .function
  co : sc.isCoroutine = false
  gen : sc.isGenerator = false
  nd : N.Nodup
  pre : N.take P.length = P
  par : ∀ x ∈ P, sc.names.lookup x = some .local ∨ sc.names.lookup x = some .cell
  nofree : ∀ y ∈ sc.names, y.2 ≠ .free

theorem bindL_out {kindOf : Str → Option NameKind} {x : Str} : ∀ {binds : List (Str × Value)} {m : Str → Option Value}, (∀ v, (x, v) ∉ binds) → bindL kindOf binds m x = m x
  | [], _, _ => rfl
  | (n, v) :: r, m, h => by
    unfold bindL
    rw [bindL_out fun w hw => h w (List.mem_cons_of_mem _ hw)]
    split
    · have : x ≠ n := by rintro rfl; exact h v List.mem_cons_self
      simp [this]
    · rfl
theorem bindC_out {kindOf : Str → Option NameKind} {x : Str} : ∀ {binds : List (Str × Value)} {m : Str → Option Value}, (∀ v, (x, v) ∉ binds) → bindC kindOf binds m x = m x
  | [], _, _ => rfl
  | (n, v) :: r, m, h => by
    unfold bindC
    rw [bindC_out fun w hw => h w (List.mem_cons_of_mem _ hw)]
    split
    · rfl
    · have : x ≠ n := by rintro rfl; exact h v List.mem_cons_self
      simp [this]
theorem bindL_get {kindOf : Str → Option NameKind} {x : Str} {v : Value} : ∀ {P : List Str} {vs : List Value} {i : Nat} {m : Str → Option Value}, P.Nodup → P[i]? = some x → vs[i]? = some v → kindOf x = some .local →
    bindL kindOf (P.zip vs) m x = some v
  | [], _, _, _, _, h, _, _ => by simp at h
  | _ :: _, [], _, _, _, _, h, _ => by simp at h
  | p :: P, w :: vs, 0, m, nd, h1, h2, hk => by
    simp at h1 h2; subst h1; subst h2
    show bindL kindOf ((p, w) :: P.zip vs) m p = _
    unfold bindL
    rw [bindL_out fun v hv => (List.nodup_cons.mp nd).1 (List.of_mem_zip hv).1, if_pos hk]
    simp
  | p :: P, w :: vs, i + 1, m, nd, h1, h2, hk => by
    show bindL kindOf ((p, w) :: P.zip vs) m x = _
    unfold bindL
    exact bindL_get (i := i) (List.nodup_cons.mp nd).2 (by simpa using h1) (by simpa using h2) hk
theorem bindC_get {kindOf : Str → Option NameKind} {x : Str} {v : Value} : ∀ {P : List Str} {vs : List Value} {i : Nat} {m : Str → Option Value}, P.Nodup → P[i]? = some x → vs[i]? = some v → kindOf x ≠ some .local →
    bindC kindOf (P.zip vs) m x = some v
  | [], _, _, _, _, h, _, _ => by simp at h
  | _ :: _, [], _, _, _, _, h, _ => by simp at h
  | p :: P, w :: vs, 0, m, nd, h1, h2, hk => by
    simp at h1 h2; subst h1; subst h2
    show bindC kindOf ((p, w) :: P.zip vs) m p = _
    unfold bindC
    rw [bindC_out fun v hv => (List.nodup_cons.mp nd).1 (List.of_mem_zip hv).1, if_neg hk]
    simp
  | p :: P, w :: vs, i + 1, m, nd, h1, h2, hk => by
    show bindC kindOf ((p, w) :: P.zip vs) m x = _
    unfold bindC
    exact bindC_get (i := i) (List.nodup_cons.mp nd).2 (by simpa using h1) (by simpa using h2) hk

/-- the names' values at the entry -/
def start (N : List Str) (vs : List V) : St := vs.map some ++ List.replicate (N.length - vs.length) none

/-- the context of a def's body, at its entry; an exception leaves the frame, then lies as CX says -/
def cxOf (CX : CXT) (P : Program) (w : World) (K : PySem.W.Frag) (mg : Str → Option Value) (base : Heap) (N : List Str) (qual : Str) (scope : Scope) (f : Addr) (cd : Value) (A : Around) (outer : List Env) (s : Shared) (H : Hp) (E : XK) : Cx where
  prog := P
  w := w
  K := K
  mg := mg
  base := base
  A := A.deeper (envOfC qual scope s.heap.objs.size f cd)
  N := N
  s₀ := s
  H₀ := H
  env := envOfC qual scope s.heap.objs.size f cd
  outer := outer
  stack := envOfC qual scope s.heap.objs.size f cd :: outer
  ex := []
  calm := true
  fn := fun _ => true
  pn := []
  xe := fun e s' => wpAny (model P w) (A.deeper (envOfC qual scope s.heap.objs.size f cd)) (leaving (envOfC qual scope s.heap.objs.size f cd) e) (fun _ s'' => CX outer H s E e s'') (fun e' s'' => CX outer H s E e' s'') s'

theorem cell_has {sc : Scope} {n : Nat} {x : Str} (h : sc.names.lookup x = some .cell) : ∃ c, (cellsFrom n sc.names []).lookup x = some c := by
  have q := PySem.W.cellsFrom_some sc.names n [] (.inl h)
  exact Option.isSome_iff_exists.mp q

theorem inv_start {CX : CXT} {P : Program} {w : World} {K : PySem.W.Frag} {mg : Str → Option Value} {base : Heap} {N ps : List Str} {qual : Str} {scope : Scope} {f : Addr} {cd : Value} {A : Around} {outer : List Env} {s s1 : Shared} {H : Hp} {E : XK} {us : List Value} {vs : List V}
    (S : FnScope N ps scope) (hd : A.handled = none) (e0 : Env0 P w K mg base A outer s H) (hl : vs.length = ps.length) (r : Vals vs us)
    (x : InCallC s s.heap.objs.size (bindL (envOfC qual scope s.heap.objs.size f cd).kindOf (ps.zip us) fun _ => none) (cellsFrom (s.heap.objs.size + 1) scope.names []) (bindC (envOfC qual scope s.heap.objs.size f cd).kindOf (ps.zip us) fun _ => none) s1) :
    Inv (cxOf CX P w K mg base N qual scope f cd A outer s H E) [] (start N vs) H s1 := by
  have hpl : ps.length ≤ N.length := by have := congrArg List.length S.pre; rw [List.length_take] at this; omega
  obtain ⟨h1, tk, rfl, hk⟩ := x.done
  have noA : ∀ b : Addr, b ∉ (cxOf CX P w K mg base N qual scope f cd A outer s H E).ex := fun b z => absurd (show b ∈ ([] : List Addr) from z) (by simp)
  refine ⟨⟨e0.mod, S.kind, rfl, rfl, Nat.le_refl _, fun y z c h1 h2 => ?_, fun y hy => ?_, fun y c _ h => ?_, fun _ => hd, Around.frames_deeper e0.frames, .inr ⟨rfl, rfl⟩, fun b z => absurd z (noA b), e0.bs, e0.bsz, fun b _ _ => noA b, fun b z => absurd z (noA b), e0.funs, e0.frf⟩,
    rfl, e0.bare, Un.kept hk, ⟨_, x.toInCall.ns, fun i y v h1 h2 h3 => ?_⟩, fun y c h => ⟨_, x.cell y c h⟩, e0.hok.fresh (Nat.le_refl _), fun y c h => ?_, fun p hp => absurd (show p ∈ ([] : List (Addr × Obj)) from hp) (by simp), e0.hok.kept hk, ?_⟩
  · exact name_of_addr x.apart (PySem.mem_of_lookup h1) (PySem.mem_of_lookup h2)
  · have hy : scope.names.lookup y = some .cell ∨ scope.names.lookup y = some .free := hy
    rcases hy with hy | hy
    · exact cell_has hy
    · exact absurd rfl (S.nofree _ (PySem.mem_of_lookup hy))
  · exact Nat.le_of_lt (x.above y c (PySem.mem_of_lookup h))
  · have hi : i < vs.length := by
      unfold start at h2
      by_cases hi : i < vs.length
      · exact hi
      · rw [List.getElem?_append_right (by simpa using hi)] at h2
        rw [List.getElem?_replicate] at h2
        split at h2 <;> cases h2
    have ha : vs[i]? = some v := by
      unfold start at h2
      rw [List.getElem?_append_left (by simpa using hi), List.getElem?_map] at h2
      cases e : vs[i]? with
      | none => rw [e] at h2; cases h2
      | some a => rw [e] at h2; cases h2; rfl
    obtain ⟨u, hu, rv⟩ := r.get ha
    have hp : ps[i]? = some y := by
      rw [← S.pre, List.getElem?_take_of_lt (by omega)]; exact h1
    have ndP : ps.Nodup := by rw [← S.pre]; exact S.nd.sublist (List.take_sublist _ _)
    refine ⟨u, rv, ?_⟩
    rcases S.par y (List.mem_of_getElem? hp) with k | k
    · exact .inl ⟨k, bindL_get ndP hp hu k⟩
    · obtain ⟨c, e⟩ := cell_has (n := s.heap.objs.size + 1) k
      refine .inr ⟨.inl k, c, e, ?_⟩
      have q := x.cell y c e
      rw [bindC_get ndP hp hu (by show scope.names.lookup y ≠ _; rw [k]; decide)] at q
      exact q
  · exact e0.hok.fresh (Nat.le_of_lt (x.above y c (PySem.mem_of_lookup h)))
  · unfold start
    show _ = N.length
    rw [List.length_append, List.length_map, List.length_replicate]
    omega

/-- THE RULE: a def (or a method) of the text, by its body. The body's reading t is chosen for each entry; it is run at the parameters' values -/
theorem fn_of {CX : CXT} {P : Program} {w : World} {K : PySem.W.Frag} {mg : Str → Option Value} {base : Heap} {k : Nat} {f : Addr} {name qual : Str} {params : Arguments} {body : List Stmt} {scope : Scope} {dV kV doc pm cdv ct oc : Value} {an od : Option Addr}
    {osl : Array (Option Value)} {N ps : List Str} {sp : Sp} (lk : K.lookup f = some ⟨oc, od, .func (PySem.W.fnOf name qual params body scope dV kV doc pm an cdv ct), osl⟩) (hcd : PySem.W.codeIn K cdv qual = true) (S : FnScope N ps scope)
    (len : ∀ vs H Q E, sp vs H Q E → vs.length = ps.length)
    (hbody : ∀ (A : Around) (outer : List Env) (s : Shared) (H : Hp) (vs : List V) (Q : VK) (E : XK), Room k (A.deeper (envOfC qual scope s.heap.objs.size f cdv)) → sp vs H Q E →
      ∃ t, PSs (cxOf CX P w K mg base N qual scope f cdv A outer s H E) body t ∧ t { nx := fun _ H' => Q .non H', rt := Q } (start N vs) H) :
    FnOk P w K mg base CX (k + 1) f (PySem.W.fnOf name qual params body scope dV kV doc pm an cdv ct) ps sp := by
  refine ⟨len, fun A outer s H args us vs Q E hr e0 hb r hsp => ?_⟩
  have hl := len _ _ _ _ hsp
  have KX : K.In s.heap := e0.mod.kin.keeps fun b o e => (e0.bs b o e).1
  have lim : s.heap.NoLimit := e0.mod.nolimit.keeps fun b o e => (e0.bs b o e).1
  have hkind : ∀ y ∈ ps.zip us, scope.names.lookup y.1 = some .local ∨ (scope.names.lookup y.1 = some .cell ∧ ((cellsFrom (s.heap.objs.size + 1) scope.names []).lookup y.1).isSome = true) := fun ⟨n, v⟩ hy => by
    rcases S.par n (List.of_mem_zip hy).1 with q | q
    · exact .inl q
    · exact .inr ⟨q, PySem.W.cellsFrom_some _ _ _ (.inl q)⟩
  refine codeAny_call_function hr.depth (KX _ _ lk) rfl S.co S.gen rfl (PySem.W.codeRec_of KX hcd) (hb _ _ _ _ ?_)
  refine wpAny_newFunctionEnv_cells S.kind hkind fun env he s1 x => ?_
  subst he
  refine ⟨lim.keeps x.toInCall.keep, codeAny_func ?_⟩
  obtain ⟨t, ht, hq⟩ := hbody A outer s H vs Q E (hr.deeper _) hsp
  have I : Inv (cxOf CX P w K mg base N qual scope f cdv A outer s H E) [] (start N vs) H s1 := inv_start S hr.hd e0 hl r x
  refine wpAny_mono (ht [] s1 (start N vs) H _ I hq) (fun fl s' hs => ?_) fun e s' hs => hs
  have fin : ∀ {σ' : St} {H' : Hp} {v : V} {u : Value}, Inv (cxOf CX P w K mg base N qual scope f cdv A outer s H E) [] σ' H' s' → RelV v u → Q v H' → CE outer P w H s Q u s' :=
    fun {σ' H' v u} J rv q => ⟨v, H', J.os, J.bare, J.base, J.hok, rv, q⟩
  cases fl with
  | ret u =>
    obtain ⟨v, σ', H', J, rv, q⟩ := hs
    exact fin J rv q
  | next =>
    obtain ⟨σ', H', J, q⟩ := hs
    exact fin (v := V.non) (u := Value.none) J rfl q
  | brk =>
    obtain ⟨_, _, _, q⟩ := hs
    exact False.elim q
  | cont =>
    obtain ⟨_, _, _, q⟩ := hs
    exact False.elim q
end L2

namespace L2
open PySem PySem.Spec PyProof.Rows
section
variable {X : Cx} {x : Str} {p pos : Pos} {e : Expr} {es : List Expr} {t : TA} {id T : String} {r : List V → Hp → VK → Prop}

def tCB (r : List V → Hp → VK → Prop) (t : TA) : TE := fun σ H Q => t σ H fun vs H1 => r vs H1 Q
/-- f(e, ..), f a built-in function -/
theorem pe_callB (hc : CallR X (.builtin id) r) (hg : Gl X x) (hm : X.mg x = none) (hv : bootBuiltins x = some (.builtin id)) (ha : PA X (e :: es) t) (hn : x ≠ "__name__" := by decide) (hdb : (x == ("__debug__" : Str)) = false := by decide)
    (he : starEach (e :: es) X.env = (false, eval e X.env) :: starEach es X.env := by rfl) (hpl : (backTo pos (starEach es X.env)).any (·.1) = false := by rfl) : PE X (.Call (.Name x p) (e :: es) [] pos) (tCB r t) := by
  intro pins s σ H Q I h
  refine wpAny_Call_Name_kw (ld_blt I hg hm hv ?_ hn hdb)
  exact PyProof.Rows.callWith_builtin1 (thn (ha pos pins s σ H _ I h) fun us s1 ⟨vs, H1, I1, r1, q1⟩ => hc pins s1 σ H1 vs us Q I1 r1 q1) he hpl
/-- T(e, ..), T a built-in type -/
theorem pe_callTy (hc : CallR X (.type T) r) (hg : Gl X x) (hm : X.mg x = none) (hv : bootBuiltins x = some (.type T)) (ha : PA X (e :: es) t) (hn : x ≠ "__name__" := by decide) (hdb : (x == ("__debug__" : Str)) = false := by decide)
    (he : starEach (e :: es) X.env = (false, eval e X.env) :: starEach es X.env := by rfl) (hpl : (backTo pos (starEach es X.env)).any (·.1) = false := by rfl) : PE X (.Call (.Name x p) (e :: es) [] pos) (tCB r t) := by
  intro pins s σ H Q I h
  refine wpAny_Call_Name_kw (ld_blt I hg hm hv ?_ hn hdb)
  exact PyProof.Rows.callWith_type1 (thn (ha pos pins s σ H _ I h) fun us s1 ⟨vs, H1, I1, r1, q1⟩ => hc pins s1 σ H1 vs us Q I1 r1 q1) he hpl
end
end L2

namespace HT
open PySem PyProof.Rows

section
open PySem.SeqAt
open PySem.AutoSeq1 (wpAny_loadPart')
open PySem.MeetsSeq PySem.MeetsSeq2 PySem.MeetsSeq3

end

section
variable {prog : Program} {w : World} {A : Around} {E : Value → Shared → Prop} {s : Shared}

/-- t + u, t not empty -/
theorem cat_tup {t b : Addr} {vs ws : List Value} {Q : Value → Shared → Prop} (ht : IsTup s.heap t vs.toArray) (hb : IsTup s.heap b ws.toArray) (hv : vs ≠ [])
    (h1 : ws = [] → Q (.ref t) s) (h2 : ws ≠ [] → Q (.ref s.heap.objs.size) { s with heap := s.heap.push { cls := .type "tuple", data := .seq (vs ++ ws).toArray } })
    (hsz : vs.length + ws.length ≤ sizeLine) : wpAny (model prog w) A (binaryOp .Add (.ref t) (.ref b)) Q E s := by
  obtain ⟨⟨cls, dd, data, sl⟩, ho, hc, n, hd⟩ := id ht
  obtain ⟨⟨cls2, dd2, data2, sl2⟩, ho2, hc2, n2, hd2⟩ := id hb
  simp only at hc hd hc2 hd2
  subst hc hd hc2 hd2
  have e : vs.toArray ++ ws.toArray = (vs ++ ws).toArray := by simp
  by_cases hw : ws = []
  · exact concat_meets ⟨_, ho, rfl⟩ ⟨_, ho2, rfl⟩ noFill_tuple_add seq_tuple_add PySem.F.slot_tuple_add PySem.F.entry_tuple_add (PySem.F.args_tuple_add_2 _ _)
      (tuple_addW1 t b vs.toArray ws.toArray n n2 dd dd2 sl sl2 (by simpa using hv) (by simp [hw])) ⟨ho, ho2, h1 hw⟩
  · refine concat_meets ⟨_, ho, rfl⟩ ⟨_, ho2, rfl⟩ noFill_tuple_add seq_tuple_add PySem.F.slot_tuple_add PySem.F.entry_tuple_add (PySem.F.args_tuple_add_2 _ _)
      (tuple_addW2 t b vs.toArray ws.toArray n n2 dd dd2 sl sl2 (by simpa using hv) (by simpa using hw) (by rw [List.size_toArray, List.size_toArray]; exact hsz)) ⟨ho, ho2, ?_⟩
    rw [e]
    exact h2 hw

/-! ### t[a:b], not the whole -/
/-- a slice's bound as a place among n (d where it is left out) -/
def sIx (n d : Nat) : Option Int → Nat
  | none => d
  | some v => if v < 0 then (v + (n : Int)).toNat else min v.toNat n
theorem sIx_nat (n d k : Nat) : sIx n d (some (k : Int)) = min k n := by
  show (if (k : Int) < 0 then ((k : Int) + (n : Int)).toNat else min (k : Int).toNat n) = min k n
  rw [if_neg (by omega), Int.toNat_natCast]
end
end HT

namespace L2
open PySem PySem.Spec PyProof.Rows

/-! ### the parts of a slice -/
abbrev TO := St → Hp → (Option Int → Hp → Prop) → Prop
/-- a slice's part (left out, or an int) -/
def PO (X : Cx) (e : Option Expr) (t : TO) : Prop :=
  ∀ (pins : List (Addr × Obj)) (s : Shared) (σ : St) (H : Hp) (Q : Option Int → Hp → Prop), Inv X pins σ H s → t σ H Q →
    wpAny (model X.prog X.w) X.A (evalPart e X.env) (fun u s' => ∃ o H', Inv X pins σ H' s' ∧ IsPart u o ∧ Q o H') X.xe s
def tNoPart : TO := fun _ H Q => Q none H
def tPart (t : TE) : TO := fun σ H Q => t σ H fun x H1 => ∃ i, x = .int i ∧ Q (some i) H1

section
variable {X : Cx} {e : Expr} {te : TE} {lo hi : Option Expr} {tl th : TO} {pos p2 : Pos}

theorem po_none : PO X none tNoPart := by
  intro pins s σ H Q I h
  rw [evalPart_none]
  exact wpAny_pure ⟨none, H, I, .none, h⟩
theorem po_some (h : PE X e te) : PO X (some e) (tPart te) := by
  intro pins s σ H Q I hw
  rw [evalPart_some]
  refine thn (h pins s σ H _ I hw) fun u s1 ⟨x, H1, I1, r1, q1⟩ => ?_
  obtain ⟨i, rfl, q⟩ := q1
  obtain ⟨t, rfl⟩ := r1
  exact ⟨some i, H1, I1, .int i t, q⟩

/-- what a slice of a value is, by values: the slice object stands at sl -/
def SlR (X : Cx) (r : V → Option Int → Option Int → Hp → VK → Prop) : Prop :=
  ∀ (pins : List (Addr × Obj)) (s : Shared) (σ : St) (H : Hp) (x : V) (v vl vu : Value) (lo hi : Option Int) (sl : Addr) (Q : VK), Inv X pins σ H s → RelV x v → s.heap.IsSliceOf sl vl vu .none → IsPart vl lo → IsPart vu hi → r x lo hi H Q →
    ∃ T id, typeLookup (.type T) "__getitem__" = pure (some (.builtin id)) ∧ s.TypeIs v T ∧ wpAny (model X.prog X.w) X.A (getItem v (.ref sl)) (EP X pins σ Q) X.xe s
def tSl (r : V → Option Int → Option Int → Hp → VK → Prop) (te : TE) (tl th : TO) : TE := fun σ H Q => te σ H fun x H1 => tl σ H1 fun l H2 => th σ H2 fun u H3 => r x l u H3 Q
/-- a[lo:hi], any a -/
theorem pe_slice {r : V → Option Int → Option Int → Hp → VK → Prop} (hr : SlR X r) (he : PE X e te) (hl : PO X lo tl) (hu : PO X hi th) : PE X (.Subscript e (.Slice lo hi none p2) pos) (tSl r te tl th) := by
  intro pins s σ H Q I h
  refine Subscript_ (thn (he pins s σ H _ I h) fun v s1 ⟨x, H1, I1, r1, q1⟩ => ?_)
  refine wpAny_Slice (thn (hl pins s1 σ H1 _ I1 q1) fun vl s2 ⟨l, H2, I2, pl, q2⟩ => thn (hu pins s2 σ H2 _ I2 q2) fun vu s3 ⟨u, H3, I3, pu, q3⟩ => ?_)
  rw [evalPart_none]
  refine wpAny_pure ?_
  have I4 : Inv X pins σ H3 { s3 with heap := s3.heap.push { cls := .type "slice", data := .fields #[vl, vu, .none] } } := I3.kept (t' := s3.toks) fun b ob q => Heap.get?_push_of_some _ q
  obtain ⟨T, id, hT, ht, hg⟩ := hr pins { s3 with heap := s3.heap.push { cls := .type "slice", data := .fields #[vl, vu, .none] } } σ H3 x v vl vu l u s3.heap.objs.size Q I4 r1 (Heap.IsSliceOf.new ..) pl pu q3
  show wpAny (model X.prog X.w) X.A (subscriptTail e (.Slice lo hi none p2) v (.ref s3.heap.objs.size)) (EP X pins σ Q) X.xe { s3 with heap := s3.heap.push { cls := .type "slice", data := .fields #[vl, vu, .none] } }
  exact tail_any (ops := [.ref s3.heap.objs.size, v]) ht hT hg (by with_unfolding_all rfl)

/-- the items of xs[lo:hi] -/
def cutV (xs : List V) (lo hi : Option Int) : List V := (xs.drop (HT.sIx xs.length 0 lo)).take (HT.sIx xs.length xs.length hi - HT.sIx xs.length 0 lo)
theorem cutV_length (xs : List V) (lo hi : Option Int) : (cutV xs lo hi).length ≤ xs.length := by
  unfold cutV
  rw [List.length_take, List.length_drop]
  omega
/-! ### t < u, t + u -/
/-- t + u, t not empty: u empty gives t itself -/
def rCatT (K : PySem.W.Frag) : R2 := fun x y H Q => ∃ a b xs ys, x = .ref a ∧ y = .ref b ∧ SqT K H a xs ∧ SqT K H b ys ∧ xs ≠ [] ∧ xs.length + ys.length ≤ sizeLine ∧
  (ys = [] → Q (.ref a) H) ∧ (ys ≠ [] → ∀ p, H p = none → Q (.ref p) (upd H p (.tup (xs ++ ys))))
theorem Vals.nil_iff {xs : List V} {us : List Value} (r : Vals xs us) : us = [] ↔ xs = [] := by
  cases r with
  | nil => simp
  | cons _ _ => simp
theorem op_catT : OpR X (binaryOp .Add) (rCatT X.K) := by
  intro pins s σ H x y v u Q I rx ry h
  obtain ⟨a, b, xs, ys, rfl, rfl, ha, hb, hx, hz, q1, q2⟩ := h
  cases rx
  cases ry
  obtain ⟨its, r1, p1, _⟩ := I.tuple ha
  obtain ⟨its2, r2, p2, _⟩ := I.tuple hb
  refine HT.cat_tup p1 p2 (fun z => hx (r1.nil_iff.mp z)) (fun z => ⟨.ref a, H, I, rfl, q1 (r2.nil_iff.mp z)⟩) (fun z => ?_) (by rw [← r1.length, ← r2.length]; exact hz)
  refine ⟨.ref s.heap.objs.size, _, I.laid (t' := s.toks) (o := .tup (xs ++ ys)) (fun b ob q => Heap.get?_push_of_some _ q) (Nat.le_refl _) ?_, rfl, q2 (fun w => z (r2.nil_iff.mpr w)) _ (I.hok.fresh (Nat.le_refl _))⟩
  exact ⟨by rw [List.length_append]; exact hz, _, r1.append r2, IsTupN.new _ _⟩
end
end L2

namespace L2
open PySem PySem.Spec PyProof.Rows

/-! ### places -/
/-- the place that an index of any sign means -/
def ixN (n : Nat) (i : Int) : Option Nat := if 0 ≤ i then (if i < n then some i.toNat else none) else if -(n : Int) ≤ i then some (i + n).toNat else none
def atI {α : Type} (xs : List α) (i : Int) : Option α := (ixN xs.length i).bind fun j => xs[j]?
theorem ixN_seq {n : Nat} {i : Int} {j : Nat} (h : ixN n i = some j) : seqIndex? i n = some j ∧ j < n ∧ -(n : Int) ≤ i ∧ i < n := by
  unfold ixN at h
  by_cases h0 : 0 ≤ i
  · rw [if_pos h0] at h
    by_cases h1 : i < n
    · rw [if_pos h1] at h
      have e : i.toNat = j := Option.some.inj h
      exact ⟨by rw [seqIndex_of h0 h1, e], by omega, by omega, h1⟩
    · rw [if_neg h1] at h; cases h
  · rw [if_neg h0] at h
    by_cases h1 : -(n : Int) ≤ i
    · rw [if_pos h1] at h
      have e : (i + n).toNat = j := Option.some.inj h
      exact ⟨by rw [seqIndex_neg (by omega) h1, e], by omega, h1, by omega⟩
    · rw [if_neg h1] at h; cases h
theorem atI_get {α : Type} {xs : List α} {i : Int} {v : α} (h : atI xs i = some v) : ∃ j, seqIndex? i xs.length = some j ∧ xs[j]? = some v ∧ j < xs.length ∧ -(xs.length : Int) ≤ i ∧ i < xs.length := by
  unfold atI at h
  cases e : ixN xs.length i with
  | none => rw [e] at h; cases h
  | some j =>
    rw [e] at h
    obtain ⟨h1, h2, h3, h4⟩ := ixN_seq e
    exact ⟨j, h1, h, h2, h3, h4⟩
theorem atI_nat {α : Type} {xs : List α} {j : Nat} {v : α} (h : xs[j]? = some v) : atI xs (j : Int) = some v := by
  have hj : j < xs.length := (List.getElem?_eq_some_iff.mp h).1
  have e : ixN xs.length (j : Int) = some j := by
    unfold ixN
    rw [if_pos (by omega), if_pos (by omega)]; simp
  unfold atI; rw [e]; exact h
/-! ### what may be subscripted -/
/-- what stands as an index of a plain subscript -/
def PlainIx (b : Expr) : Prop := ∀ o i, subscripted b false o i = operate [o, i] (getItem o i)
/-- a subscript by values -/
def IxR (X : Cx) (r : R2) : Prop :=
  ∀ (value slice : Expr) (pins : List (Addr × Obj)) (s : Shared) (σ : St) (H : Hp) (x y : V) (v u : Value) (Q : VK), Inv X pins σ H s → RelV x v → RelV y u → r x y H Q →
    subscripted slice false v u = operate [v, u] (getItem v u) → wpAny (model X.prog X.w) X.A (subscriptTail value slice v u) (EP X pins σ Q) X.xe s
/-- a call of a builtin's method by values: the receiver, the arguments -/
def MtR (X : Cx) (id : String) (r : V → List V → Hp → VK → Prop) : Prop :=
  ∀ (pins : List (Addr × Obj)) (s : Shared) (σ : St) (H : Hp) (x : V) (xs : List V) (v : Value) (us : List Value) (Q : VK), Inv X pins σ H s → RelV x v → Vals xs us → r x xs H Q →
    wpAny (model X.prog X.w) X.A (call (.builtin id) (v :: us)) (EP X pins σ Q) X.xe s
section
variable {X : Cx} {a b : Expr} {ta tb : TE} {pos : Pos}
/-- a[b] -/
theorem pe_ix {r : R2} (hr : IxR X r) (ha : PE X a ta) (hb : PE X b tb) (hs : PlainIx b) : PE X (.Subscript a b pos) (tOp r ta tb) := by
  intro pins s σ H Q I h
  exact Subscript_ (binT ha hb I h fun v u s2 x y H2 I2 rx ry q => hr a b pins s2 σ H2 x y v u Q I2 rx ry q (hs _ _))

def rIxL (K : PySem.W.Frag) : R2 := fun x y H Q => ∃ p xs i v, x = .ref p ∧ y = .int i ∧ SqL K H p xs ∧ atI xs i = some v ∧ Q v H
def rIxT (K : PySem.W.Frag) : R2 := fun x y H Q => ∃ p xs i v, x = .ref p ∧ y = .int i ∧ SqT K H p xs ∧ atI xs i = some v ∧ Q v H
theorem ix_list : IxR X (rIxL X.K) := by
  intro value slice pins s σ H x y v u Q I rx ry h hs
  obtain ⟨p, xs, i, z, rfl, rfl, hq, he, q⟩ := h
  cases rx
  obtain ⟨t, rfl⟩ := ry
  obtain ⟨its, r, pl, hz⟩ := I.list hq
  obtain ⟨j, h1, h2, h3, h4, h5⟩ := atI_get he
  obtain ⟨w, ew, rw'⟩ := r.get h2
  have hl := r.length
  have hn := line63
  have fin : EP X pins σ Q w s := ⟨z, H, I, rw', q⟩
  by_cases h0 : 0 ≤ i
  · have hj : i.toNat = j := by
      rw [seqIndex_of h0 h5] at h1
      exact Option.some.inj h1
    exact item_listR pl.isList h0 (by omega) (by rw [hj]; simpa using ew) fin hs
  · have hj : (i + (its.toArray.size : Int)).toNat = j := by
      rw [seqIndex_neg (by omega) h4] at h1
      rw [List.size_toArray, ← hl]
      exact Option.some.inj h1
    exact subscriptTail_builtinR (x := w) pl.isList.typeIs slot_list_getitem.lookup
      (wpAny_getItem_list_neg (Q := fun r s' => r = w ∧ EP X pins σ Q r s') pl.isList (by omega) (by rw [List.size_toArray] <;> omega) (by omega) (by rw [hj]; simpa using ew) ⟨rfl, fin⟩) hs
theorem ix_tup : IxR X (rIxT X.K) := by
  intro value slice pins s σ H x y v u Q I rx ry h hs
  obtain ⟨p, xs, i, z, rfl, rfl, hq, he, q⟩ := h
  cases rx
  obtain ⟨t, rfl⟩ := ry
  obtain ⟨its, r, pl, hz⟩ := I.tuple hq
  obtain ⟨j, h1, h2, h3, h4, h5⟩ := atI_get he
  obtain ⟨w, ew, rw'⟩ := r.get h2
  have hl := r.length
  have hn := line63
  have fin : EP X pins σ Q w s := ⟨z, H, I, rw', q⟩
  exact subscriptTail_builtinR (x := w) pl.typeIs slot_tuple_getitem.lookup
    (getItem_tuple (j := j) (Q := fun r s' => r = w ∧ EP X pins σ Q r s') pl (by omega) (by omega) (by rw [List.size_toArray, ← hl]; exact h1) (by simpa using ew) ⟨rfl, fin⟩) hs
/-! ### xs[i] = v, any sign -/
/-- the list's object behind a store -/
theorem mapSeq_set (its : List Value) (n j : Nat) (u : Value) : Obj.mapSeq (·.setIfInBounds j u) { cls := .type "list", data := .seq its.toArray n } = { cls := .type "list", data := .seq (its.set j u).toArray n } := by
  simp [Obj.mapSeq]
theorem Inv.lst {pins : List (Addr × Obj)} {σ : St} {H : Hp} {s : Shared} {p : Addr} {xs : List V} (I : Inv X pins σ H s) (h : H p = some (.lst xs)) :
    ∃ (its : List Value) (n : Nat), Vals xs its ∧ s.heap.get? p = some { cls := .type "list", data := .seq its.toArray n } ∧ xs.length ≤ sizeLine := by
  obtain ⟨z, its, n, r, e⟩ := I.hok p _ h
  exact ⟨its, n, r, e, z⟩
/-- the list at p is written by an update of its object -/
theorem Inv.lstUpd {pins : List (Addr × Obj)} {σ : St} {H : Hp} {s : Shared} {p : Addr} {xs ys : List V} {its its' : List Value} {n n' : Nat} {f : Obj → Obj} (I : Inv X pins σ H s) (h : H p = some (.lst xs))
    (ho : s.heap.get? p = some { cls := .type "list", data := .seq its.toArray n }) (hf : f { cls := .type "list", data := .seq its.toArray n } = { cls := .type "list", data := .seq its'.toArray n' }) (r : Vals ys its') (hz : ys.length ≤ sizeLine) (t : Nat) :
    Inv X pins σ (upd H p (.lst ys)) { s with heap := s.heap.update p f, toks := t } := by
  have e : (s.heap.update p f).get? p = some { cls := .type "list", data := .seq its'.toArray n' } := by
    rw [Heap.get?_update_self f ho (by rw [hf] <;> rfl), hf]
  refine I.write (x := p) (e := p) (by rw [h]; trivial) (.inl rfl) (fun b u hb q => (Heap.get?_update_other _ _ (Ne.symm hb)).trans q) ⟨_, e⟩ ?_
  exact ⟨hz, its', n', r, e⟩
def rSetL : V → V → V → Hp → (Hp → Prop) → Prop := fun o i v H Q => ∃ p xs k j, o = .ref p ∧ i = .int k ∧ H p = some (.lst xs) ∧ ixN xs.length k = some j ∧ Q (upd H p (.lst (xs.set j v)))
theorem set_list : PSet X rSetL := by
  intro pins s σ H o i v ov iv u Q I ro ri rv h
  obtain ⟨p, xs, k, j, rfl, rfl, hp, hj, q⟩ := h
  cases ro
  obtain ⟨t, rfl⟩ := ri
  obtain ⟨its, n, r, ho, hz⟩ := I.lst hp
  obtain ⟨h1, h2, h3, h4⟩ := ixN_seq hj
  have hl := r.length
  have hn := line63
  have I' : Inv X pins σ (upd H p (.lst (xs.set j v))) { s with heap := s.heap.update p (Obj.mapSeq (·.setIfInBounds j u)) } :=
    I.lstUpd hp ho (mapSeq_set its n j u) (r.set rv j) (by rw [List.length_set]; exact hz) s.toks
  by_cases h0 : 0 ≤ k
  · have hk : k.toNat = j := by
      rw [seqIndex_of h0 h4] at h1
      exact Option.some.inj h1
    exact PySem.W.ki_setAt ho h0 (by omega) (by rw [List.size_toArray, ← hl]; exact h4) (by rw [hk]; exact ⟨_, I', q⟩)
  · have hk : (k + (its.toArray.size : Int)).toNat = j := by
      rw [seqIndex_neg (by omega) h3] at h1
      rw [List.size_toArray, ← hl]
      exact Option.some.inj h1
    exact PySem.W.ki_setBack ho (by omega) (by rw [List.size_toArray, ← hl]; exact h3) (by omega) (by rw [hk]; exact ⟨_, I', q⟩)

/-! ### slices -/
theorem slice_bounds (lo hi : Option Int) (n : Nat) : (sliceBounds lo hi none n).1 = ((HT.sIx n 0 lo : Nat) : Int) ∧ (sliceBounds lo hi none n).2.1 = ((HT.sIx n n hi : Nat) : Int) ∧ (sliceBounds lo hi none n).2.2 = 1 := by
  refine ⟨?_, ?_, rfl⟩
  · cases lo with
    | none => simp [sliceBounds, HT.sIx]
    | some i =>
      simp only [sliceBounds, HT.sIx, Option.getD_none, show (1 : Int) > 0 by decide, if_true]
      by_cases h : i < 0
      · simp only [h, if_true] <;> omega
      · simp only [h, if_false] <;> omega
  · cases hi with
    | none => simp [sliceBounds, HT.sIx]
    | some i =>
      simp only [sliceBounds, HT.sIx, Option.getD_none, show (1 : Int) > 0 by decide, if_true]
      by_cases h : i < 0
      · simp only [h, if_true] <;> omega
      · simp only [h, if_false] <;> omega
theorem slicePick_cut (its : List Value) (lo hi : Option Int) : slicePick its.toArray lo hi none = ((its.drop (HT.sIx its.length 0 lo)).take (HT.sIx its.length its.length hi - HT.sIx its.length 0 lo)).toArray := by
  obtain ⟨h1, h2, h3⟩ := slice_bounds lo hi its.toArray.size
  unfold slicePick
  rw [h1, h2, h3]
  simp only [sliceRange_one, pick_run, List.size_toArray] <;> rfl
/-- xs[lo:hi] of a list: a new list -/
def rSlL (K : PySem.W.Frag) : V → Option Int → Option Int → Hp → VK → Prop := fun x lo hi H Q => ∃ a xs, x = .ref a ∧ SqL K H a xs ∧ ∀ p, H p = none → Q (.ref p) (upd H p (.lst (cutV xs lo hi)))
theorem sl_list : SlR X (rSlL X.K) := by
  intro pins s σ H x v vl vu lo hi sl Q I rx hs pl pu h
  obtain ⟨a, xs, rfl, hx, q⟩ := h
  cases rx
  obtain ⟨its, r, ht, hz⟩ := I.list hx
  have hlen := r.length
  refine ⟨"list", _, slot_list_getitem.lookup, ht.isList.typeIs, ?_⟩
  refine wpAny_getItem_list_slice ht.isList hs pl pu .none (by simp) ?_ (by rw [List.size_toArray] <;> omega)
  rw [slicePick_cut, ← hlen]
  refine ⟨.ref s.heap.objs.size, _, I.laid (t' := s.toks) (o := .lst (cutV xs lo hi)) (fun b ob q => Heap.get?_push_of_some _ q) (Nat.le_refl _) ?_, rfl, q _ (I.hok.fresh (Nat.le_refl _))⟩
  exact ⟨Nat.le_trans (cutV_length xs lo hi) hz, _, 0, (r.drop (HT.sIx xs.length 0 lo)).take (HT.sIx xs.length xs.length hi - HT.sIx xs.length 0 lo), Heap.get?_push_size _ rfl⟩

/-! ### in, not in: flat items -/
/-! ### len, list(x), tuple(x) of any list or tuple that is read -/
theorem call_len_seq : CallR X (.builtin "len") (fun xs H Q => ∃ p ys, xs = [.ref p] ∧ (SqL X.K H p ys ∨ SqT X.K H p ys) ∧ Q (.int ys.length) H) := by
  intro pins s σ H xs us Q I r h
  obtain ⟨p, ys, rfl, hq, q⟩ := h
  obtain ⟨u, rfl, rx⟩ := vals1 r
  cases rx
  have hn := line63
  rcases hq with hq | hq
  · obtain ⟨its, r', pl, hz⟩ := I.list hq
    have hlen := r'.length
    exact Calls.call_len_list pl.isList (by simp only [List.size_toArray] <;> omega) ⟨.int ys.length, H, I.tok _, ⟨s.toks + 1, by rw [List.size_toArray, hlen]⟩, q⟩
  · obtain ⟨its, r', pl, hz⟩ := I.tuple hq
    have hlen := r'.length
    exact len_tuple pl (by simp only [List.size_toArray] <;> omega) ⟨.int ys.length, H, I.tok _, ⟨s.toks + 1, by rw [List.size_toArray, hlen]⟩, q⟩
theorem call_list_of : CallR X (.type "list") (fun xs H Q => ∃ p ys, xs = [.ref p] ∧ (SqL X.K H p ys ∨ SqT X.K H p ys) ∧ ∀ l, H l = none → Q (.ref l) (upd H l (.lst ys))) := by
  intro pins s σ H xs us Q I r h
  obtain ⟨p, ys, rfl, hq, q⟩ := h
  obtain ⟨u, rfl, rx⟩ := vals1 r
  cases rx
  have fin : ∀ (its : List Value), Vals ys its → ys.length ≤ sizeLine → ∀ (h' : Heap) (c' : Nat), (∀ b o', s.heap.get? b = some o' → h'.get? b = some o') →
      h'.get? s.heap.objs.size = some { cls := .type "list", dict := none, data := .seq its.toArray c', slots := #[] } → EP X pins σ Q (.ref s.heap.objs.size) { s with heap := h' } := fun its r' hz h' c' kp e =>
    ⟨.ref s.heap.objs.size, _, I.laid (t' := s.toks) kp (Nat.le_refl _) (show ObjOk X.prog X.w _ h' _ (.lst ys) from ⟨hz, its, c', r', e⟩), rfl, q _ (I.hok.fresh (Nat.le_refl _))⟩
  rcases hq with hq | hq
  · obtain ⟨its, r', pl, hz⟩ := I.list hq
    have hlen := r'.length
    obtain ⟨o, ho, hc, n, hd⟩ := pl.isList
    exact call_list_seq p (.inl rfl) ho hc hd (fun h' c' kp e => fin its r' hz h' c' kp e) (by simp only [List.size_toArray] <;> omega)
  · obtain ⟨its, r', pl, hz⟩ := I.tuple hq
    have hlen := r'.length
    obtain ⟨o, ho, hc, n, hd⟩ := pl
    exact call_list_seq p (.inr rfl) ho hc hd (fun h' c' kp e => fin its r' hz h' c' kp e) (by simp only [List.size_toArray] <;> omega)
theorem call_tuple_of : CallR X (.type "tuple") (fun xs H Q => ∃ p ys, xs = [.ref p] ∧ ((SqL X.K H p ys ∧ ∀ l, H l = none → Q (.ref l) (upd H l (.tup ys))) ∨ (SqT X.K H p ys ∧ Q (.ref p) H))) := by
  intro pins s σ H xs us Q I r h
  obtain ⟨p, ys, rfl, h⟩ := h
  obtain ⟨u, rfl, rx⟩ := vals1 r
  cases rx
  rcases h with ⟨hq, q⟩ | ⟨hq, q⟩
  · obtain ⟨its, r', pl, hz⟩ := I.list hq
    have hlen := r'.length
    refine call_tuple_list pl.isList (fun h' kp => ?_) (by simp only [List.size_toArray] <;> omega)
    have I1 : Inv X pins σ H { s with heap := h' } := I.kept (t' := s.toks) kp
    have I2 : Inv X pins σ (upd H h'.objs.size (.tup ys)) { s with heap := h'.push { cls := .type "tuple", data := .seq its.toArray } } :=
      I1.laid (t' := s.toks) (fun b o e => Heap.get?_push_of_some _ e) (Nat.le_refl _) (show ObjOk X.prog X.w _ _ _ (.tup ys) from ⟨hz, its, r', IsTupN.new _ _⟩)
    exact ⟨.ref h'.objs.size, _, I2, rfl, q _ (I1.hok.fresh (Nat.le_refl _))⟩
  · obtain ⟨its, r', pl, hz⟩ := I.tuple hq
    exact call_tuple_same pl ⟨.ref p, H, I, rfl, q⟩

/-! ### the call of a builtin's method: o.m(..) -/
/-- the value is of that builtin type -/
def tyV (K : PySem.W.Frag) (T : String) (x : V) (H : Hp) : Prop := match x with
  | .str _ => T = "str"
  | .int _ => T = "int"
  | .ref p => (T = "list" ∧ ∃ xs, SqL K H p xs) ∨ (T = "tuple" ∧ ∃ o, K.lookup p = some o ∧ o.cls = .type "tuple" ∧ o.dict = none) ∨
      (T = "dict" ∧ ((∃ kvs, H p = some (.dK kvs)) ∨ ∃ kvs, H p = some (.dT kvs))) ∨ (T = "set" ∧ ∃ S n, H p = some (.set S n))
  | _ => False
theorem tyV_is {pins : List (Addr × Obj)} {σ : St} {H : Hp} {s : Shared} {T : String} {x : V} {v : Value} (I : Inv X pins σ H s) (r : RelV x v) (ty : tyV X.K T x H) :
    s.TypeIs v T ∧ ∀ a, v = .ref a → ∃ ob, s.heap.get? a = some ob ∧ ob.dict = none := by
  cases x with
  | str z =>
    obtain ⟨t, rfl⟩ := r
    cases (show T = "str" from ty)
    exact ⟨typeIs_str s z t, fun _ e => nomatch e⟩
  | int i =>
    obtain ⟨t, rfl⟩ := r
    cases (show T = "int" from ty)
    exact ⟨typeIs_int s i t, fun _ e => nomatch e⟩
  | ref p =>
    cases r
    rcases ty with ⟨rfl, xs, hq⟩ | ⟨rfl, o, hk, hc, hd⟩ | ⟨rfl, hk⟩ | ⟨rfl, S, n, hk⟩
    · obtain ⟨its, _, pl, _⟩ := I.list hq
      refine ⟨pl.isList.typeIs, fun a e => ?_⟩
      cases e
      obtain ⟨o, n, e, c, hd, _⟩ := pl
      exact ⟨o, e, hd⟩
    · refine ⟨⟨o, I.kIn p o hk, hc⟩, fun a e => ?_⟩
      cases e
      exact ⟨o, I.kIn _ o hk, hd⟩
    · have z : ∃ o, s.heap.get? p = some o ∧ o.ExactDict := by
        rcases hk with ⟨kvs, hk⟩ | ⟨kvs, hk⟩
        · obtain ⟨_, _, _, _, o, _, _, e, ex, _⟩ := I.hok p _ hk
          exact ⟨o, e, ex⟩
        · obtain ⟨_, _, _, _, o, _, _, e, ex, _⟩ := I.hok p _ hk
          exact ⟨o, e, ex⟩
      obtain ⟨o, e, ex⟩ := z
      refine ⟨⟨o, e, ex.1⟩, fun a e2 => ?_⟩
      cases e2
      exact ⟨o, e, ex.2.1⟩
    · obtain ⟨o, _, _, _, e, ex, _⟩ := I.hok p _ hk
      refine ⟨⟨o, e, ex.1⟩, fun a e2 => ?_⟩
      cases e2
      exact ⟨o, e, ex.2.1⟩
  | _ => exact False.elim ty
def tBM0 (K : PySem.W.Frag) (T : String) (r : V → List V → Hp → VK → Prop) (to : TE) : TE := fun σ H Q => to σ H fun x H1 => tyV K T x H1 ∧ r x [] H1 Q
def tBM (K : PySem.W.Frag) (T : String) (r : V → List V → Hp → VK → Prop) (to : TE) (t : TA) : TE := fun σ H Q => to σ H fun x H1 => tyV K T x H1 ∧ t σ H1 fun xs H2 => r x xs H2 Q
variable {o e : Expr} {es : List Expr} {to : TE} {t : TA} {name : Str} {apos cpos : Pos} {T id : String} {r : V → List V → Hp → VK → Prop}
theorem pe_bm0 (pa : PlainAttrs T) (slot : Slot T name id) (hty : typeOf (.builtin id) = pure (.type "method_descriptor")) (hm : MtR X id r) (ho : PE X o to)
    (hbase : attributeBase o name X.env (eval o X.env) = eval o X.env := by rfl) (hline : (apos.endLine == cpos.line) = true := by rfl) : PE X (.Call (.Attribute o name apos) [] [] cpos) (tBM0 X.K T r to) := by
  intro pins s σ H Q I h
  refine wpAny_Call_method0_late hbase hline (thn (ho pins s σ H _ I h) fun v s1 ⟨x, H1, I1, r1, ty, q1⟩ => ?_)
  obtain ⟨h1, h2⟩ := tyV_is I1 r1 ty
  exact ⟨T, id, pa, slot, hty, h1, h2, Calls.callWith_builtin rfl (PySem.evalArgs_none (hm pins s1 σ H1 x [] v [] Q I1 r1 .nil q1))⟩
theorem pe_bm (pa : PlainAttrs T) (slot : Slot T name id) (hty : typeOf (.builtin id) = pure (.type "method_descriptor")) (hm : MtR X id r) (ho : PE X o to) (ha : PA X (e :: es) t)
    (hbase : attributeBase o name X.env (eval o X.env) = eval o X.env := by rfl)
    (hfew : ((backTo cpos (starEach (e :: es) X.env)).all (fun x => !x.1) && (backToKw cpos (keywordEach [] X.env)).all (fun x => x.1.isSome)
      && decide ((e :: es).length + ([] : List Keyword).length + (if ([] : List Keyword).isEmpty then 0 else 1) < 30)) = true := by rfl)
    (hline : (apos.endLine == cpos.line) = true := by rfl) (hs : starEach (e :: es) X.env = (false, eval e X.env) :: starEach es X.env := by rfl) (hplain : (backTo cpos (starEach es X.env)).any (·.1) = false := by rfl) :
    PE X (.Call (.Attribute o name apos) (e :: es) [] cpos) (tBM X.K T r to t) := by
  intro pins s σ H Q I h
  refine wpAny_Call_method_late hbase hfew hline rfl (thn (ho pins s σ H _ I h) fun v s1 ⟨x, H1, I1, r1, ty, q1⟩ => ?_)
  obtain ⟨h1, h2⟩ := tyV_is I1 r1 ty
  refine ⟨T, id, pa, slot, hty, h1, h2, ?_⟩
  have hA := ha cpos pins s1 σ H1 _ I1 q1
  rw [hs] at hA ⊢
  refine Calls.callWith_builtin (by show (false || (backTo cpos (starEach es X.env)).any (·.1)) = false; rw [hplain] <;> rfl) (Calls.evalArgs_plain ?_)
  exact thn hA fun us s2 ⟨vs, H2, I2, r2, q2⟩ => hm pins s2 σ H2 x vs v us Q I2 r1 r2 q2
/- xs.append(e), list.index on a module's tuple .. are MtR facts of 06m -/
end
end L2

namespace L2
open PySem PySem.Spec PyProof.Rows

def MtM (X : Cx) (id : String) (r : V → List V → Hp → VK → Prop) : Prop :=
  ∀ (pins : List (Addr × Obj)) (s : Shared) (σ : St) (H : Hp) (x : V) (xs : List V) (v : Value) (us : List Value) (Q : VK), Inv X pins σ H s → RelV x v → Vals xs us → r x xs H Q →
    wpAny (model X.prog X.w) X.A (call (.builtin id) (v :: us)) (EP X pins σ Q) X.xe s

/-! ### lists of values -/
theorem Vals.one : ∀ {x : V} {us : List Value}, Vals [x] us → ∃ u, us = [u] ∧ RelV x u
  | _, _, .cons r .nil => ⟨_, rfl, r⟩
theorem Vals.zero : ∀ {us : List Value}, Vals [] us → us = []
  | _, .nil => rfl
theorem Vals.dropLast {xs : List V} {us : List Value} (h : Vals xs us) : Vals xs.dropLast us.dropLast := by
  induction h with
  | nil => exact .nil
  | cons r t ih =>
    cases t with
    | nil => exact .nil
    | cons q t' => exact .cons r ih
theorem Vals.eraseIdx : ∀ {xs : List V} {us : List Value} (i : Nat), Vals xs us → Vals (xs.eraseIdx i) (us.eraseIdx i)
  | _, _, _, .nil => .nil
  | _, _, 0, .cons _ t => t
  | _, _, i + 1, .cons r t => .cons r (Vals.eraseIdx i t)
theorem erase_last {α : Type} (l : List α) : l.eraseIdx (l.length - 1) = l.dropLast := by
  induction l with
  | nil => rfl
  | cons a r ih =>
    cases r with
    | nil => rfl
    | cons b r =>
      have e : (a :: b :: r).length - 1 = ((b :: r).length - 1) + 1 := by
        have h1 : (a :: b :: r).length = r.length + 2 := rfl
        have h2 : (b :: r).length = r.length + 1 := rfl
        omega
      rw [e, List.eraseIdx_cons_succ, ih]
      all_goals rfl
theorem len_erase {α : Type} : ∀ (l : List α) (i : Nat), (l.eraseIdx i).length ≤ l.length
  | [], _ => Nat.le_refl _
  | _ :: _, 0 => Nat.le_succ _
  | _ :: r, i + 1 => Nat.succ_le_succ (len_erase r i)
section
variable {X : Cx} {pins : List (Addr × Obj)} {σ : St} {H : Hp} {s : Shared} {l b : Addr} {xs ys zs : List V}

/-! ### the two steps: a tracked list is rewritten, a new list is laid -/
theorem Inv.lset {its its' : List Value} {n : Nat} {f : Array Value → Array Value} {t' : Nat} (I : Inv X pins σ H s) (hH : H l = some (.lst xs))
    (e : s.heap.get? l = some { cls := .type "list", data := .seq its.toArray n }) (hf : f its.toArray = its'.toArray) (hv : Vals ys its') (hz : ys.length ≤ sizeLine) :
    Inv X pins σ (upd H l (.lst ys)) { s with heap := s.heap.update l (Obj.mapSeq f), toks := t' } := by
  have q := PySem.IsL.update e f
  rw [hf] at q
  refine I.write (x := l) (e := l) (by rw [hH]; exact trivial) (.inl rfl) (fun b' u hb hu => (Heap.get?_update_other s.heap (Obj.mapSeq f) (Ne.symm hb)).trans hu) ⟨_, q⟩ ?_
  exact ⟨hz, its', _, hv, q⟩
theorem Inv.lnew {its : List Value} {t' : Nat} (I : Inv X pins σ H s) (hv : Vals ys its) (hz : ys.length ≤ sizeLine) :
    Inv X pins σ (upd H s.heap.objs.size (.lst ys)) { s with heap := s.heap.push { cls := .type "list", data := .seq its.toArray }, toks := t' } :=
  I.laid (fun _ _ q => Heap.get?_push_of_some _ q) (Nat.le_refl _) ⟨hz, its, 0, hv, Heap.get?_push_size _ rfl⟩
theorem Inv.fresh (I : Inv X pins σ H s) : H s.heap.objs.size = none := I.hok.fresh (Nat.le_refl _)
theorem Inv.lstM (I : Inv X pins σ H s) (hH : H l = some (.lst xs)) : xs.length ≤ sizeLine ∧ ∃ (its : List Value) (n : Nat), Vals xs its ∧ xs.length = its.length ∧ s.heap.get? l = some { cls := .type "list", data := .seq its.toArray n } := by
  obtain ⟨z, its, n, r, e⟩ := I.hok l _ hH
  exact ⟨z, its, n, r, r.length, e⟩

end

section
variable {X : Cx}

/-! ### methods -/
def rAppend : V → List V → Hp → VK → Prop := fun x vs H Q => ∃ l xs y, x = .ref l ∧ vs = [y] ∧ H l = some (.lst xs) ∧ xs.length < sizeLine ∧ Q .non (upd H l (.lst (xs ++ [y])))
theorem mt_append : MtM X "list.append" rAppend := by
  intro pins s σ H x vs v us Q I rx rv h
  obtain ⟨l, xs, y, rfl, rfl, hH, hz, q⟩ := h
  cases rx
  obtain ⟨u, rfl, ru⟩ := rv.one
  obtain ⟨z, its, n, r, hl, e⟩ := I.lstM hH
  refine call_meets F.slot_list_append ⟨_, e, rfl⟩ F.entry_list_append (F.args_list_append_2 _ _) (PySem.list_append l its.toArray n u (by rw [List.size_toArray]; omega)) ⟨e, ?_⟩
  refine ⟨.non, _, I.lset (its' := its ++ [u]) hH e (by simp) (r.append (.cons ru .nil)) ?_, rfl, q⟩
  rw [List.length_append, List.length_singleton]
  omega

def rPop : V → List V → Hp → VK → Prop := fun x vs H Q => ∃ l xs y, x = .ref l ∧ vs = [] ∧ H l = some (.lst xs) ∧ xs[xs.length - 1]? = some y ∧ Q y (upd H l (.lst xs.dropLast))
theorem mt_pop : MtM X "list.pop" rPop := by
  intro pins s σ H x vs v us Q I rx rv h
  obtain ⟨l, xs, y, rfl, rfl, hH, hy, q⟩ := h
  cases rx
  have hus := rv.zero
  subst hus
  obtain ⟨z, its, n, r, hl, e⟩ := I.lstM hH
  obtain ⟨u, hu, ru⟩ := r.get hy
  have hy' : its.toArray[its.toArray.size - 1]? = some u := by
    show its.toArray[its.length - 1]? = some u
    rw [← Array.getElem?_toList, ← hl]
    exact hu
  refine call_meets F.slot_list_pop ⟨_, e, rfl⟩ F.entry_list_pop (F.args_list_pop_1 _) (MeetsSeq.list_pop_last l its.toArray n u hy' (by rw [List.size_toArray]; omega)) ⟨e, ?_⟩
  refine ⟨y, _, I.lset (its' := its.dropLast) hH e ?_ r.dropLast ?_, ru, q⟩
  · show its.toArray.eraseIdxIfInBounds (its.toArray.size - 1) = its.dropLast.toArray
    rw [List.size_toArray, List.eraseIdxIfInBounds_toArray, erase_last]
  · rw [List.length_dropLast]
    omega

def rPopAt : V → List V → Hp → VK → Prop := fun x vs H Q => ∃ l xs i k y, x = .ref l ∧ vs = [.int i] ∧ H l = some (.lst xs) ∧ -(2 ^ 63) ≤ i ∧ i < 2 ^ 63 ∧ seqIndex? i xs.length = some k ∧ xs[k]? = some y ∧ Q y (upd H l (.lst (xs.eraseIdx k)))
theorem mt_popAt : MtM X "list.pop" rPopAt := by
  intro pins s σ H x vs v us Q I rx rv h
  obtain ⟨l, xs, i, k, y, rfl, rfl, hH, h1, h2, hk, hy, q⟩ := h
  cases rx
  obtain ⟨u, rfl, ru⟩ := rv.one
  obtain ⟨t, rfl⟩ := ru
  obtain ⟨z, its, n, r, hl, e⟩ := I.lstM hH
  obtain ⟨w, hw, rw'⟩ := r.get hy
  refine call_meets F.slot_list_pop ⟨_, e, rfl⟩ F.entry_list_pop (F.args_list_pop_2 _ _)
    (MeetsSeq.list_pop_at l its.toArray n i t k w (fitsIndex_both h1 h2) (by rw [List.size_toArray, ← hl]; exact hk) (by rw [← Array.getElem?_toList]; exact hw) (by rw [List.size_toArray]; omega)) ⟨e, ?_⟩
  refine ⟨y, _, I.lset (its' := its.eraseIdx k) hH e ?_ (r.eraseIdx k) ?_, rw', q⟩
  · show its.toArray.eraseIdxIfInBounds k = (its.eraseIdx k).toArray
    rw [List.eraseIdxIfInBounds_toArray]
  · have := len_erase xs k
    omega

/-! ### list + list, list += list, list * int -/
def rCat : R2 := fun x y H Q => ∃ l b xs zs, x = .ref l ∧ y = .ref b ∧ H l = some (.lst xs) ∧ H b = some (.lst zs) ∧ xs.length + zs.length ≤ sizeLine ∧ ∀ p, H p = none → Q (.ref p) (upd H p (.lst (xs ++ zs)))
theorem op_cat : OpR X (binaryOp .Add) rCat := by
  intro pins s σ H x y v u Q I rx ry h
  obtain ⟨l, b, xs, zs, rfl, rfl, hH, hB, hz, q⟩ := h
  cases rx
  cases ry
  obtain ⟨z, its, n, r, hl, e⟩ := I.lstM hH
  obtain ⟨z2, its2, n2, r2, hl2, e2⟩ := I.lstM hB
  refine PySem.P.add_list e e2 ?_ (by rw [List.size_toArray, List.size_toArray]; omega)
  have ea : its.toArray ++ its2.toArray = (its ++ its2).toArray := by simp
  rw [ea]
  exact ⟨.ref _, _, I.lnew (t' := s.toks) (r.append r2) (by rw [List.length_append]; omega), rfl, q _ I.fresh⟩
/-! ### del xs[i] -/
end

/-! ### xs[a:b] = ys -/
section
variable {prog : Program} {w : World} {A : Around} {E : Value → Shared → Prop} {s : Shared}
end

section
variable {X : Cx}
end
end L2

namespace Att
open PySem PySem.W PySem.Calls PyProof.Rows

/-! ### the script -/
theorem ints_of_wellAll {P : Params} {h : Heap} : ∀ (ns : List Int) (vs : List Value), WellAll P h vs (ns.map WData.int) → IntsAre vs ns := by
  intro ns
  induction ns with
  | nil =>
    intro vs w
    rw [List.map_nil] at w
    cases w
    exact .nil
  | cons n ns ih =>
    intro vs w
    rw [List.map_cons] at w
    cases w with
    | cons a b =>
      cases a
      exact .cons _ _ (ih _ b)

theorem script_of {l : OpenLaw} {n : Nat} (hn : l.most = some n) {P : Params} {h : Heap} {args : List WData} {vals : List Value}
    (hpre : l.row.toRowW.claim.pre args = true) (hwl : WellAll P h vals args) :
    ∃ a vs ns, vals = [Value.ref a] ∧ args = [WData.list (ns.map WData.int)] ∧ h.get? a = some { cls := .type "list", data := .seq vs.toArray } ∧ IntsAre vs ns ∧ ns.length ≤ n := by
  have hsh : WShape.hasAll [] args [.list .int] = true := (pre_splitW hpre).1
  have hc : l.pre.holds [] { args := args } = true := (pre_splitW hpre).2
  obtain ⟨d, r, rfl, h1, h2⟩ := hasAllW_cons hsh
  obtain rfl := hasAllW_nil h2
  obtain ⟨xs, rfl, h3⟩ := hasW_list h1
  obtain ⟨ns, rfl⟩ := items_int h3
  have hlen : ns.length ≤ n := by
    unfold OpenLaw.pre at hc
    have h4 : (WTm.not (.lt (.lit (.int (n : Int))) (.len (.arg 0)))).holds [] { args := [.list (ns.map .int)] } = true := by
      have h4 := (holds_andW hc).1
      rw [hn] at h4
      exact h4
    have h5 := condW_of h4 (w_not (w_lt w_lit (w_len_list (w_arg rfl))))
    rw [List.length_map] at h5
    refine Nat.le_of_not_lt fun q => ?_
    have q' : (n : Int) < ((ns.length : Nat) : Int) := by omega
    first
      | (rw [decide_eq_true q'] at h5; exact absurd h5 (by decide))
      | (simp at h5; omega)
  cases hwl with
  | cons w1 w2 =>
    cases w2
    cases w1 with
    | list ho hall => exact ⟨_, _, ns, rfl, rfl, ho, ints_of_wellAll ns _ hall, hlen⟩

theorem post_true (l : OpenLaw) (args : List WData) : l.row.toRowW.claim.post args (.bool true) args = true :=
  postW_of (r := l.row.toRowW) (X := (true == true))
    (show WShape.has [] (.bool true) .bool = true by first | rfl | decide | simp [WShape.has, WShape.arms, WShape.armsAll])
    (show (WTm.eq .res (.lit (.bool true))).value [] { args := args, res := some (.bool true), after := args } = some (.bool (true == true)) from w_eq_bool (w_res rfl) w_lit) rfl

/-! ### the attachment: holds_open's last premise (the goal 'hc' behind k_head) from a wpAny of the law's body -/
/-- the same from a codeAny of the CALL (for a layer whose function contracts speak of calls) -/
theorem attach_call {l : OpenLaw} {n : Nat} {q : Program} {loose : List Str} {XP : (Str → Option Value) → Heap → Prop} {YP : World → Heap → Prop} {d : DefRec}
    (hn : l.most = some n) (hdf : d.params.defaults = [])
    (call : ∀ (w : World) (s₀ s₁ : Shared) (mg mb : Str → Option Value) (fa : Addr) (o : Obj) (pm cd doc : Value) (a : Addr) (vs : List Value) (ns : List Int),
      Ground q loose [] XP w s₀ mg mb s₁.heap → YP w s₁.heap →
      s₁.heap.get? fa = some o → o.data = .func (docDef d.name d.params d.body d.scope pm cd doc) → s₁.heap.CodeRec cd d.name → mg d.name = some (.ref fa) →
      s₁.heap.get? a = some { cls := .type "list", data := .seq vs.toArray } → IntsAre vs ns → ns.length ≤ n → s₁.gens = #[] →
      codeAny (model l.prog w) callerA (.call (.ref fa) ⟨[.ref a], []⟩) (fun r s' => r = .ok (.ret (.bool true)) ∧ OldK s₁.heap s'.heap ∧ s'.os = s₁.os ∧ AllBare s'.gens) s₁) :
    WalkO q loose XP YP l.row.toRowW d [] (fun f vs => PySem.call f vs) := by
  intro w s₀ s₁ mg mb G Y fa o pm cd doc dV kV ho hd hcd hD hmg hg args vals as hpre hlay hrd hwl hlo
  obtain rfl : dV = .none := Dflts.none hD hdf
  obtain rfl : kV = .none := Dflts.noKw hD
  obtain ⟨a, vs, ns, rfl, rfl, hobj, hints, hlen⟩ := script_of hn hpre hwl
  refine enter_call (codeAny_mono (call w s₀ s₁ mg mb fa o pm cd doc a vs ns G Y ho (fd_plain hd) hcd hmg hobj hints hlen hg) fun r s' hq => ?_)
  obtain ⟨rfl, h2, h3, h4⟩ := hq
  exact ⟨.inl ⟨.bool true, .bool true, [], rfl, fun _ => rfl, .bool true, post_true l _, fun _ => ⟨List.Pairwise.nil, fun _ hm => (nomatch hm)⟩⟩, h2, h3, h4⟩

/-! ### rules over ANY heap (no ledger) from facts about the written part K: the library's own take a ledger (News) for what they write -/
section
variable {prog : Program} {w : World} {A : Around} {E : Value → Shared → Prop} {s : Shared} {K : Frag}

/-! the whole heap as the ledger: makes every rule that writes through a ledger a rule over any heap -/
def ledger (h : Heap) (L d : Addr) : List (Addr × Obj) := (List.range h.objs.size).filterMap fun a => if a = L ∨ a = d then none else (h.get? a).map fun o => (a, o)
end
end Att

namespace L2
open PySem PySem.Spec PyProof.Rows

theorem vals_ints : ∀ {vs : List Value} {ns : List Int}, IntsAre vs ns → Vals (ns.map V.int) vs
  | _, _, .nil => .nil
  | _, _, .cons n t h => .cons ⟨t, rfl⟩ (vals_ints h)

/-- nothing is tracked but the script, known to the object (or it is an object of the module) -/
def Only (H : Hp) : Prop := ∀ b, H b = none ∨ ∃ o xs, H b = some (.frz o (.lst xs))

/-- THE HEAD: the law's promise, at the heap behind the top. F, the promise of the law's def, may use that base is part of the heap (so K.In base, base.Ns mainGlobals mg stand in Mod) -/
theorem law_call {P : Program} {w : World} {K : PySem.W.Frag} {mg mb : Str → Option Value} {CX : CXT} {k : Nat} {fa a : Addr} {fd : FuncData} {x : Str} {sp : Sp} {s₁ : Shared} {vs : List Value} {ns : List Int}
    (KX : K.In s₁.heap) (hns : s₁.heap.Ns mainGlobals mg) (hb : s₁.heap.Ns builtinsNs mb) (hbb : ∀ x : Str, x ≠ "__name__" → mb x = bootBuiltins x) (hlim : s₁.heap.NoLimit) (hg : s₁.gens = #[])
    (ha : s₁.heap.get? a = some { cls := .type "list", data := .seq vs.toArray }) (hi : IntsAre vs ns) (hl : ns.length ≤ sizeLine) (hr : Room k callerA)
    (F : ∀ base : Heap, K.In base → base.Ns mainGlobals mg → FnOk P w K mg base CX k fa fd [x] sp) (hbind : ∀ (s : Shared) (u : Value), BindsTo s fd ⟨[u], []⟩ [(x, u)])
    (hsp : ∀ H : Hp, Only H → SqL K H a (ns.map V.int) → sp [.ref a] H (fun v _ => v = .bl true) fun _ _ _ => False)
    (hCX : ∀ H e s', CX [] H s₁ (fun _ _ _ => False) e s' → False) :
    codeAny (model P w) callerA (.call (.ref fa) ⟨[.ref a], []⟩) (fun r s' => r = .ok (.ret (.bool true)) ∧ OldK s₁.heap s'.heap ∧ s'.os = s₁.os ∧ AllBare s'.gens) s₁ := by
  have rv := vals_ints hi
  have lenV := hi.length
  -- from an abstract heap in which nothing but the script may be tracked
  have core : ∀ H : Hp, Only H → SqL K H a (ns.map V.int) → HOk P w H s₁.heap → (∀ b, H b ≠ none → b = a) → (H a ≠ none → K.lookup a = none) →
      codeAny (model P w) callerA (.call (.ref fa) ⟨[.ref a], []⟩) (fun r s' => r = .ok (.ret (.bool true)) ∧ OldK s₁.heap s'.heap ∧ s'.os = s₁.os ∧ AllBare s'.gens) s₁ := by
    intro H hO hS hok hA hK
    have base_of : ∀ {b : Addr} {o : Obj}, s₁.heap.get? b = some o → H b = none → (hidT s₁.heap H).get? b = some o := fun e n => hidT_get e n
    have noA : ∀ {b : Addr} {o : Obj} {es : Array DictEntry} {ep : Nat}, s₁.heap.get? b = some o → o.data = .dict es ep → H b = none := fun {b o es ep} e d => by
      cases q : H b with
      | none => rfl
      | some u =>
        have e' : b = a := hA b (by rw [q]; simp)
        subst e'
        rw [ha] at e; cases e
        have d' : Data.seq vs.toArray _ = Data.dict es ep := d
        cases d'
    have nsK : ∀ {b : Addr} {m : Str → Option Value}, s₁.heap.Ns b m → (hidT s₁.heap H).Ns b m := fun {b m} ⟨o, es, ep, e, d, r⟩ => ⟨o, es, ep, base_of e (noA e d), d, r⟩
    have hKb : K.In (hidT s₁.heap H) := fun b o e => base_of (KX b o e) (by
      cases q : H b with
      | none => rfl
      | some u =>
        have e' : b = a := hA b (by rw [q]; simp)
        subst e'
        rw [hK (by rw [q]; simp)] at e; cases e)
    have hM : Mod K mg (hidT s₁.heap H) := ⟨hKb, nsK hns, ⟨mb, nsK hb, hbb⟩, let ⟨mc, h1, h2⟩ := hlim; ⟨mc, nsK h1, h2⟩⟩
    have e0 : Env0 P w K mg (hidT s₁.heap H) callerA [] s₁ H := ⟨rfl, hM, fun b o e => of_hidT e, Nat.le_of_eq (hidT_size _ _), trivial, fun b hb => absurd (show b ∈ ([] : List Addr) from hb) (by simp), hok, .of_eq hg⟩
    refine codeAny_mono ((F _ hKb (nsK hns)).run callerA [] s₁ H ⟨[.ref a], []⟩ [.ref a] [.ref a] _ _ hr e0 (hbind s₁ (.ref a)) (.cons rfl .nil) (hsp H hO hS)) fun r s' h => ?_
    cases r with
    | error e => exact (hCX H e s' h).elim
    | ok fl =>
      cases fl with
      | next => exact False.elim h
      | brk => exact False.elim h
      | cont => exact False.elim h
      | ret u =>
        obtain ⟨v, H', os, bare, un, hok', r', q⟩ := h
        have q' : v = .bl true := q
        subst q'
        obtain rfl : u = Value.bool true := r'
        refine ⟨rfl, OldK.of_keep fun b o e => ?_, os, bare⟩
        cases q : H b with
        | none => exact un.keep b o e q (by intro z; exact absurd (show b ∈ ([] : List Addr) from z) (by simp)) (by simp)
        | some u =>
          rcases hO b with z | ⟨ob, xs, z⟩
          · rw [q] at z; cases z
          · have z2 := un.frzs b ob _ z
            obtain ⟨e1, _⟩ := hok b _ z
            obtain ⟨e2, _⟩ := hok' b _ z2
            rw [e] at e1; cases e1
            exact e2
  cases hk : K.lookup a with
  | some o =>
    -- the script is one of the module's own objects
    have e := KX a o hk
    rw [ha] at e
    cases e
    refine core (fun _ => none) (fun _ => .inl rfl) (.inr ⟨_, vs.toArray, _, hk, rfl, rfl, rfl, by rw [List.size_toArray, lenV]; exact hl, by simpa using rv⟩) (fun b u z => by have z' : (none : Option HO) = some u := z; cases z') (fun b z => absurd rfl z) fun z => absurd rfl z
  | none =>
    refine core (fun b => if b = a then some (.frz { cls := .type "list", data := .seq vs.toArray } (.lst (ns.map V.int))) else none) (fun b => ?_) (.inl (.inr ⟨{ cls := .type "list", data := .seq vs.toArray }, if_pos rfl⟩)) (fun b u z => ?_) (fun b z => ?_) fun _ => hk
    · by_cases hb : b = a
      · exact .inr ⟨_, _, if_pos hb⟩
      · exact .inl (if_neg hb)
    · by_cases hb : b = a
      · have z' := (if_pos hb).symm.trans z
        cases z'
        subst hb
        exact ⟨ha, by rw [List.length_map]; exact hl, vs, _, rv, ha⟩
      · have z' := (if_neg hb).symm.trans z
        cases z'
    · by_cases hb : b = a
      · exact hb
      · exact absurd (if_neg hb) z
end L2

namespace L2
open PySem PySem.Spec PyProof.Rows

abbrev KOf {K : PySem.W.Frag} {h : Heap} (_ : K.In h) : PySem.W.Frag := K

/-- the goal that k_head leaves (case hc), from the law's promise. F gives the function object fd (K's own) once, then the promise over every base -/
theorem walk_of {l : PySem.W.OpenLaw} {n k : Nat} {q : Program} {loose : List Str} {XP : (Str → Option Value) → Heap → Prop} {YP : World → Heap → Prop} {d : DefRec} {K : Params → PySem.W.Frag} {CX : World → CXT} {sp : World → Sp} {x : Str}
    (hn : l.most = some n) (hn2 : n ≤ sizeLine) (hdf : d.params.defaults = []) (hr : Room k callerA)
    (hY : ∀ (w : World) (h : Heap), YP w h → (K w.params).In h)
    (F : ∀ (w : World) (mg : Str → Option Value) (fa : Addr) (h : Heap), (K w.params).In h → h.Ns mainGlobals mg → mg d.name = some (.ref fa) →
      ∃ fd : FuncData, (∀ (s : Shared) (u : Value), BindsTo s fd ⟨[u], []⟩ [(x, u)]) ∧
        ∀ base : Heap, (K w.params).In base → base.Ns mainGlobals mg → FnOk l.prog w (K w.params) mg base (CX w) k fa fd [x] (sp w))
    (hsp : ∀ (w : World) (H : Hp) (a : Addr) (ns : List Int), ns.length ≤ n → Only H → SqL (K w.params) H a (ns.map V.int) → sp w [.ref a] H (fun v _ => v = .bl true) fun _ _ _ => False)
    (hCX : ∀ (w : World) (H : Hp) (s : Shared) (e : Value) (s' : Shared), CX w [] H s (fun _ _ _ => False) e s' → False) :
    PySem.W.WalkO q loose XP YP l.row.toRowW d [] (fun f vs => PySem.call f vs) := by
  refine Att.attach_call hn hdf fun w s₀ s₁ mg mb fa o pm cd doc a vs ns G Y ho hd hcd hmg hobj hints hlen hg => ?_
  have KX := hY w _ Y
  obtain ⟨fd, hb, hF⟩ := F w mg fa _ KX G.T.g hmg
  exact law_call KX G.T.g G.T.b G.T.builtins G.T.nolimit hg hobj hints (Nat.le_trans hlen hn2) hr hF hb (fun H hO hS => hsp w H a ns hlen hO hS) fun H e s' => hCX w H s₁ e s'
end L2

/- THE LAST THEOREM (shape; LID, My.* are yours):
   My.Adr: a structure of the addresses that your layer names (classes, functions); My.Txt K t: a structure (Prop) of the equations over K;
   My.txt_mk : {K} {implicit addresses ..} (e1 : nsIn K mainGlobals "law" = some (some (.ref f))) (e2 : K.lookup f = some ⟨oc, od, .func (fnOf "law" "law" params body scope dV kV doc pm an cdv ct), sl⟩) (e3 : codeIn K cdv "law" = true) .. : ∃ t, My.Txt K t

set_option maxRecDepth 100000 in
set_option maxHeartbeats 0 in
theorem PySem.Challenge.cw_LID_holds : PySem.Challenge.rw_LID.Holds := by
  w_on; o_law; k_head; (case hw => w_witness2)
  k_fill
  refine L2.walk_of (l := PySem.Challenge.rw_LID) (n := 63) (k := 40) (x := "script") (CX := fun w => ..) (sp := fun _ => My.sp_law) rfl (by decide) rfl ⟨rfl, by decide, by decide⟩ (fun w h Y => PySem.W.kIn_of Y) ?F ?S ?C
  case F =>
    intro w mg fa h KX G hmg
    have T : ∃ t, My.Txt (L2.KOf KX) t := by
      dsimp only [L2.KOf]                          -- K must stand as «<heap const> w.params» for k_is
      refine' My.txt_mk ?e1 ?e2 ?e3 ..
      (case e1 => PySem.W.k_is)                    -- in the order: a name -> its address -> its object -> its parts
      (case e2 => PySem.W.k_is)
      ..
    obtain ⟨t, T⟩ := T
    have e0 := hmg.symm.trans (PySem.W.mg_of KX G T.law)
    cases e0                                       -- fa is the law's own address
    exact ⟨_, fun s u => .of_eq rfl, fun base kb nb => My.law_fn T kb nb⟩     -- if «.of_eq rfl» comes too early: refine' ⟨_, ?b, fun base kb nb => My.law_fn T kb nb⟩; exact fun s u => .of_eq rfl
  case S => exact fun w H a ns hl hO hS => ..
  case C => exact ..
(the tactic k_is has no namespace: write k_is) -/

/-! SHORT WORDS over the layer: a def of the text, its body, what a loop and a test want. -/
namespace L2
open PySem PySem.Spec PyProof.Rows

/-! ### the text by places -/
def defArgs (s : Stmt) : Arguments := match s with
  | .FunctionDef _ a _ _ _ _ _ _ _ _ => a
  | _ => { posonlyargs := [], args := [], vararg := none, kwonlyargs := [], kw_defaults := [], kwarg := none, defaults := [] }
def defBody (s : Stmt) : List Stmt := match s with
  | .FunctionDef _ _ b _ _ _ _ _ _ _ => b
  | _ => []
def defScope (s : Stmt) : Scope := match s with
  | .FunctionDef _ _ _ _ _ _ sc _ _ _ => sc
  | _ => { kind := .function, names := [], isGenerator := false, isCoroutine := false }

/-! ### no exception leaves a def -/
abbrev CX0 : CXT := fun _ _ _ _ _ _ => False
abbrev E0 : XK := fun _ _ _ => False
theorem pass0 {X : Cx} : Passes CX0 X E0 := fun _ _ _ _ _ _ _ h => h.elim

/-! ### a def (or method) of the text as it stands behind the top -/
structure Fun (K : PySem.W.Frag) (x qual : Str) (st : Stmt) (f : Addr) (fd : FuncData) : Prop where
  ex : ∃ (oc : Value) (od : Option Addr) (kV doc pm : Value) (an : Option Addr) (cdv ct : Value) (osl : Array (Option Value)),
    fd = PySem.W.fnOf x qual (defArgs st) (defBody st) (defScope st) .none kV doc pm an cdv ct ∧ K.lookup f = some ⟨oc, od, .func fd, osl⟩ ∧ PySem.W.codeIn K cdv qual = true
  kp : PySem.W.keepIn K (.ref f) = true
section
variable {P : Program} {w : World} {K : PySem.W.Frag} {mg : Str → Option Value} {base : Heap}
/-- THE RULE for a def: its body as a term of rules, and the reading of that term -/
theorem Fun.ok {x qual : Str} {st : Stmt} {f : Addr} {fd : FuncData} {N ps : List Str} {k : Nat} {sp : Sp} (F : Fun K x qual st f fd) (S : FnScope N ps (defScope st)) (len : ∀ vs H Q E, sp vs H Q E → vs.length = ps.length)
    (hbody : ∀ (cdv : Value) (A : Around) (outer : List Env) (s : Shared) (H : Hp) (vs : List V) (Q : VK) (E : XK), Room k (A.deeper (envOfC qual (defScope st) s.heap.objs.size f cdv)) → sp vs H Q E →
      ∃ t, PSs (cxOf CX0 P w K mg base N qual (defScope st) f cdv A outer s H E).nox (defBody st) t ∧ t { nx := fun _ H' => Q .non H', rt := Q } (start N vs) H) : FnOk P w K mg base CX0 (k + 1) f fd ps sp := by
  obtain ⟨oc, od, kV, doc, pm, an, cdv, ct, osl, rfl, lk, hcd⟩ := F.ex
  refine fn_of lk hcd S len fun A outer s H vs Q E hr hsp => ?_
  obtain ⟨t, h, q⟩ := hbody cdv A outer s H vs Q E hr hsp
  exact ⟨t, h.nox, q⟩
/-- how its arguments bind (no defaults): h is «fun _ _ _ _ _ _ us hl => match us, hl with | [_, _], _ => rfl», one _ a parameter -/
theorem Fun.binds {x qual : Str} {st : Stmt} {f : Addr} {fd : FuncData} {ps : List Str} (F : Fun K x qual st f fd)
    (h : ∀ (kV doc pm : Value) (an : Option Addr) (cdv ct : Value) (us : List Value), us.length = ps.length → bindArgs (PySem.W.fnOf x qual (defArgs st) (defBody st) (defScope st) .none kV doc pm an cdv ct) ⟨us, []⟩ = pure (ps.zip us)) : Binds K fd ps [] := by
  obtain ⟨oc, od, kV, doc, pm, an, cdv, ct, osl, rfl, lk, hcd⟩ := F.ex
  exact .all (h kV doc pm an cdv ct)
theorem fun_mk {x qual : Str} {st : Stmt} {f : Addr} {oc : Value} {od an : Option Addr} {osl : Array (Option Value)} {kV doc pm cdv ct : Value} (l : K.lookup f = some ⟨oc, od, .func (PySem.W.fnOf x qual (defArgs st) (defBody st) (defScope st) .none kV doc pm an cdv ct), osl⟩)
    (c : PySem.W.codeIn K cdv qual = true) (k : PySem.W.keepIn K (.ref f) = true) : Fun K x qual st f (PySem.W.fnOf x qual (defArgs st) (defBody st) (defScope st) .none kV doc pm an cdv ct) := ⟨⟨oc, od, kV, doc, pm, an, cdv, ct, osl, rfl, l, c⟩, k⟩
end
/-! ### expressions in short: the name that stands in the i-th slot -/
section
variable {X : Cx}
theorem pv (i : Nat) {x : Str} {pos : Pos} (hN : X.N[i]? = some x := by rfl) (hv : Vis X.env.scope x := by first | exact Or.inl rfl | exact Or.inr (Or.inl rfl) | exact Or.inr (Or.inr rfl)) (hd : (x == ("__debug__" : Str)) = false := by decide)
    (hcd : (x == ("__classdict__" : Str)) = false := by decide) : PE X (.Name x pos) (tVar i) := pe_var hN hv hd hcd
end

/-! ### tests -/
theorem ite2 {c A B : Prop} [Decidable c] (h1 : c → A) (h2 : ¬ c → B) : if c then A else B := by
  by_cases h : c
  · rw [if_pos h]
    exact h1 h
  · rw [if_neg h]
    exact h2 h
/-! ### heaps -/
/-- all that was tracked is as it was -/
def Same (H H' : Hp) : Prop := ∀ b o, H b = some o → H' b = some o
theorem Same.refl (H : Hp) : Same H H := fun _ _ h => h
theorem Same.trans {H H1 H2 : Hp} (a : Same H H1) (b : Same H1 H2) : Same H H2 := fun c o h => b c o (a c o h)
theorem Same.free {H H' : Hp} (e : Same H H') {l : Addr} (h : H' l = Option.none) : H l = Option.none := by
  cases q : H l with
  | none => rfl
  | some o =>
    rw [e l o q] at h
    cases h
end L2

/-! MORE RULES over the hand layer: a comprehension with one clause, isinstance, all, is True, empty tuples and lists compared, // by a great number. -/
namespace L2
open PySem PySem.Spec PyProof.Rows

/-! ### numbers -/
section
variable {X : Cx}
theorem op_fdivB : OpR X (binaryOp .FloorDiv) (rI (fun _ j => 0 < j ∧ j.natAbs.log2 < 9000) fun i j => .int (i / j)) := opI fun i j _ _ _ _ _ hc q => by
  have e : i.fdiv j = i / j := Int.fdiv_eq_ediv_of_nonneg i (Int.le_of_lt hc.1)
  refine floordiv_int (by have := hc.1; omega) ?_ (.inl (PyProof.noPylong_of_log2 hc.2))
  rw [e]
  exact q

/-! ### is, with truths -/
theorem op_isNotB : OpR X (compareOp .IsNot) (fun x y H Q => ∃ b c, x = .bl b ∧ y = .bl c ∧ Q (.bl (!(b == c))) H) := by
  intro pins s σ H x y v u Q I rx ry h
  obtain ⟨b, c, rfl, rfl, q⟩ := h
  cases (show v = Value.bool b from rx)
  cases (show u = Value.bool c from ry)
  refine wpAny_isNot_plain rfl (fin_bl I q ?_)
  cases b <;> cases c <;> rfl

/-! ### all of truths -/
theorem bools_of : ∀ {bs : List Bool} {us : List Value}, Vals (bs.map V.bl) us → LSm.BoolsAre us bs
  | [], _, .nil => .nil
  | b :: bs, _, .cons r t => by
    cases (show _ = Value.bool b from r)
    exact .cons b (bools_of t)
theorem call_all (hc : X.calm = true) : CallR X (.builtin "all") (fun xs H Q => ∃ (p : Addr) (bs : List Bool), xs = [.ref p] ∧ SqL X.K H p (bs.map V.bl) ∧ Q (.bl (bs.all id)) H) := by
  intro pins s σ H xs us Q I r h
  obtain ⟨p, bs, rfl, hq, q⟩ := h
  obtain ⟨u, rfl, ru⟩ := vals1 r
  cases (show u = Value.ref p from ru)
  obtain ⟨its, rv, pl, hz⟩ := I.list hq
  have hb := bools_of rv
  have hil : s.heap.IsList p its.toArray := pl.isList
  have plt : p < s.heap.objs.size := by obtain ⟨_, e, _⟩ := hil; exact Heap.lt_size e
  refine call_all_walk (wpAny_pyIter_list hil ⟨s.heap.objs.size, [s.heap.objs.size, p], [s.heap.objs.size], its.toArray.size, _, _, fun i => (bs[i]?).getD true, rfl,
    Walks.list (A := X.A.in1) (I.ok.hd hc) _ p (Nat.ne_of_lt plt) its.toArray, ⟨⟨_, Heap.get?_push_size _ rfl, rfl, rfl⟩, hil.push _⟩, ?_, ?_⟩)
  · intro i v s' Q' E' hP hT
    obtain ⟨b, e, rfl⟩ := hb.get i v (by simpa using hP)
    simp only [e, Option.getD_some] at hT
    exact wpAny_truthy_bool hT
  · intro h' tk hk
    have e2 : ((List.range its.toArray.size).all fun i => (bs[i]?).getD true) = bs.all id := by
      rw [List.size_toArray, hb.length]
      exact LSm.range_all bs
    rw [e2]
    exact ⟨.bl _, H, I.kept (LSm.kept_iter hk), rfl, q⟩

/-! ### an empty tuple, an empty list, on the right of == -/
/-! ### isinstance, by the value's own sort -/
def tyn (H : Hp) : V → Option String
  | .non => some "NoneType"
  | .bl _ => some "bool"
  | .int _ => some "int"
  | .str _ => some "str"
  | .ref a => match H a with
    | some (.lst _) => some "list"
    | some (.tup _) => some "tuple"
    | some (.dK _) => some "dict"
    | _ => none
  | _ => none
theorem TyOf.byName {K : PySem.W.Frag} {H : Hp} {v : V} {T : String} (h : tyn H v = some T) : TyOf K H v (.type T) := by
  cases v with
  | non => cases h; exact .non
  | bl b => cases h; exact .bl b
  | int i => cases h; exact .int i
  | str x => cases h; exact .str x
  | ref a =>
    simp only [tyn] at h
    cases e : H a with
    | none => rw [e] at h; cases h
    | some o =>
      rw [e] at h
      cases o <;> first | (cases h; first | exact .lst e | exact .tup e | exact .dK e) | cases h
  | _ => cases h
theorem kit_tuple (K : PySem.W.Frag) {T : String} (h : T ∈ ["NoneType", "bool", "int", "str", "list", "tuple", "dict"]) : PySem.W.kitOne K (.type T) (.type "tuple") = some (T == "tuple") := by
  simp only [List.mem_cons, List.not_mem_nil, or_false] at h
  rcases h with rfl | rfl | rfl | rfl | rfl | rfl | rfl <;> kernel_rfl
theorem kit_int (K : PySem.W.Frag) {T : String} (h : T ∈ ["NoneType", "bool", "int", "str", "list", "tuple", "dict"]) : PySem.W.kitOne K (.type T) (.type "int") = some (T == "int" || T == "bool") := by
  simp only [List.mem_cons, List.not_mem_nil, or_false] at h
  rcases h with rfl | rfl | rfl | rfl | rfl | rfl | rfl <;> kernel_rfl
theorem kit_bool (K : PySem.W.Frag) {T : String} (h : T ∈ ["NoneType", "bool", "int", "str", "list", "tuple", "dict"]) : PySem.W.kitOne K (.type T) (.type "bool") = some (T == "bool") := by
  simp only [List.mem_cons, List.not_mem_nil, or_false] at h
  rcases h with rfl | rfl | rfl | rfl | rfl | rfl | rfl <;> kernel_rfl
theorem tyn_mem {H : Hp} {v : V} {T : String} (h : tyn H v = some T) : T ∈ ["NoneType", "bool", "int", "str", "list", "tuple", "dict"] := by
  cases v with
  | non => cases h; simp
  | bl b => cases h; simp
  | int i => cases h; simp
  | str x => cases h; simp
  | ref a =>
    simp only [tyn] at h
    cases e : H a with
    | none => rw [e] at h; cases h
    | some o =>
      rw [e] at h
      cases o <;> first | (cases h; simp; done) | cases h
  | _ => cases h
theorem call_isinst : CallR X (.builtin "isinstance") (fun xs H Q => ∃ x n t b, xs = [x, .ty n] ∧ TyOf X.K H x t ∧ PySem.W.kitOne X.K t (.type n) = some b ∧ Q (.bl b) H) := by
  intro pins s σ H xs us Q I r h
  obtain ⟨x, n, t, b, rfl, ty, e, q⟩ := h
  obtain ⟨u, w', rfl, ru, rw'⟩ := vals2 r
  cases (show w' = Value.type n from rw')
  exact isinst_ok I ru ty e fun tk => ⟨.bl b, H, I.tok tk, rfl, q⟩
/-- isinstance(x, tuple), (x, int), (x, bool) -/
theorem call_isTup : CallR X (.builtin "isinstance") (fun xs H Q => ∃ x T, xs = [x, .ty "tuple"] ∧ tyn H x = some T ∧ Q (.bl (T == "tuple")) H) :=
  fun pins s σ H xs us Q I r ⟨x, T, e, hT, q⟩ => call_isinst pins s σ H xs us Q I r ⟨x, _, _, _, e, .byName hT, kit_tuple _ (tyn_mem hT), q⟩
theorem call_isInt : CallR X (.builtin "isinstance") (fun xs H Q => ∃ x T, xs = [x, .ty "int"] ∧ tyn H x = some T ∧ Q (.bl (T == "int" || T == "bool")) H) :=
  fun pins s σ H xs us Q I r ⟨x, T, e, hT, q⟩ => call_isinst pins s σ H xs us Q I r ⟨x, _, _, _, e, .byName hT, kit_int _ (tyn_mem hT), q⟩
theorem call_isBool : CallR X (.builtin "isinstance") (fun xs H Q => ∃ x T, xs = [x, .ty "bool"] ∧ tyn H x = some T ∧ Q (.bl (T == "bool")) H) :=
  fun pins s σ H xs us Q I r ⟨x, T, e, hT, q⟩ => call_isinst pins s σ H xs us Q I r ⟨x, _, _, _, e, .byName hT, kit_bool _ (tyn_mem hT), q⟩
end

/-! ### t + u of tuples, whatever is empty -/
section
variable {X : Cx}
def rCatA (K : PySem.W.Frag) : R2 := fun x y H Q => ∃ a b xs ys, x = .ref a ∧ y = .ref b ∧ H a = some (.tup xs) ∧ H b = some (.tup ys) ∧ xs.length + ys.length ≤ sizeLine ∧
  ∀ p H', Same H H' → H' p = some (.tup (xs ++ ys)) → Q (.ref p) H'
theorem op_catA : OpR X (binaryOp .Add) (rCatA X.K) := by
  intro pins s σ H x y v u Q I rx ry h
  obtain ⟨a, b, xs, ys, rfl, rfl, ha, hb, hz, q⟩ := h
  cases xs with
  | cons x xs =>
    refine op_catT pins s σ H (.ref a) (.ref b) v u Q I rx ry ⟨a, b, _, ys, rfl, rfl, SqT.of ha, SqT.of hb, (by simp), hz, fun e => ?_, fun _ p hp => ?_⟩
    · subst e
      exact q a H (Same.refl H) (by rw [List.append_nil]; exact ha)
    · exact q p _ (fun c o e => by rw [upd_ne (ne_of_none e hp)]; exact e) upd_same
  | nil =>
    cases (show v = Value.ref a from rx)
    cases (show u = Value.ref b from ry)
    obtain ⟨its, r1, p1, _⟩ := I.tuple (SqT.of (K := X.K) ha)
    obtain ⟨its2, r2, p2, _⟩ := I.tuple (SqT.of (K := X.K) hb)
    cases r1
    obtain ⟨⟨c1, d1, t1, l1⟩, o1, k1, n1, g1⟩ := id p1
    obtain ⟨⟨c2, d2, t2, l2⟩, o2, k2, n2, g2⟩ := id p2
    simp only at k1 g1 k2 g2
    subst k1 g1 k2 g2
    exact concat_meets ⟨_, o1, rfl⟩ ⟨_, o2, rfl⟩ noFill_tuple_add seq_tuple_add PySem.F.slot_tuple_add PySem.F.entry_tuple_add (PySem.F.args_tuple_add_2 _ _)
      (tuple_addW0 a b _ its2.toArray n1 n2 d1 d2 l1 l2 (by simp)) ⟨o1, o2, ⟨.ref b, H, I, rfl, q b H (Same.refl H) hb⟩⟩
end
end L2

/-! A LIST COMPREHENSION of one clause and at most one test, from which no exception leaves. -/
namespace L2
open PySem PySem.Spec PyProof.Rows

/-- the context of a comprehension's block -/
def cxComp (X : Cx) (scope : Scope) (cl : List (Str × Addr)) (C : Addr) (N : List Str) (s : Shared) (H : Hp) (ex : List Addr) : Cx :=
  { X with N := N, s₀ := s, H₀ := H, env := compEnvC scope cl C X.env, outer := X.stack, ex := ex, fn := fun _ => false, pn := [], xe := fun _ _ => False }

/-! ### the closure -/
theorem closure_has {scope : Scope} {env : Env} (hf : ∀ y ∈ scope.names, y.2 = .free → ∃ c, env.cells.lookup y.1 = some c) :
    ∃ cl, closureFor scope env = pure cl ∧ (∀ x c, cl.lookup x = some c → env.cells.lookup x = some c) ∧ ∀ y ∈ scope.names, y.2 = .free → cl.lookup y.1 = env.cells.lookup y.1 := by
  have aux : ∀ (names : List (Str × NameKind)) (acc : List (Str × Addr)), (∀ y ∈ names, y.2 = .free → ∃ c, env.cells.lookup y.1 = some c) → (∀ x c, acc.lookup x = some c → env.cells.lookup x = some c) →
      ∃ cl, (forIn names acc fun x r => match x with
          | (name, kind) => if (kind == NameKind.free) = true then (cellOf env name >>= fun c => pure (ForInStep.yield ((name, c) :: r))) else pure (ForInStep.yield r) : Sem (List (Str × Addr))) = pure cl ∧
        (∀ x c, cl.lookup x = some c → env.cells.lookup x = some c) ∧ (∀ x c, acc.lookup x = some c → cl.lookup x = some c) ∧ ∀ y ∈ names, y.2 = .free → cl.lookup y.1 = env.cells.lookup y.1 := by
    intro names
    induction names with
    | nil => intro acc _ ha; exact ⟨acc, rfl, ha, fun _ _ e => e, fun y hy => absurd hy (by simp)⟩
    | cons z r ih =>
      intro acc hn ha
      obtain ⟨n, k⟩ := z
      have hr : ∀ y ∈ r, y.2 = .free → ∃ c, env.cells.lookup y.1 = some c := fun y hy => hn y (List.mem_cons_of_mem _ hy)
      by_cases hk : k = .free
      · subst hk
        obtain ⟨c, hc⟩ := hn (n, .free) List.mem_cons_self rfl
        have hc : env.cells.lookup n = some c := hc
        have ha' : ∀ x d, ((n, c) :: acc).lookup x = some d → env.cells.lookup x = some d := fun x d e => by
          rw [List.lookup_cons] at e
          cases hx : x == n with
          | true =>
            rw [hx] at e
            have e' : c = d := Option.some.inj e
            have ex : x = n := eq_of_beq hx
            rw [ex, ← e']; exact hc
          | false => rw [hx] at e; exact ha x d e
        obtain ⟨cl, e1, e2, e3, e4⟩ := ih ((n, c) :: acc) hr ha'
        have hcell : cellOf env n = pure c := by unfold cellOf; rw [hc]
        refine ⟨cl, ?_, e2, fun x d e => ?_, fun y hy hy2 => ?_⟩
        · rw [List.forIn_cons]
          show ((if (NameKind.free == NameKind.free) = true then (cellOf env n >>= fun c => pure (ForInStep.yield ((n, c) :: acc))) else pure (ForInStep.yield acc)) >>= _) = _
          rw [if_pos (by decide : (NameKind.free == NameKind.free) = true), hcell]
          exact e1
        · have h1 : ((n, c) :: acc).lookup x = some (if x == n then c else d) := by
            rw [List.lookup_cons]
            cases hx : x == n with
            | true => rfl
            | false => exact e
          have h2 := e3 x _ h1
          have h3 := e2 x _ h2
          have h4 := ha x d e
          rw [h3] at h4
          rw [h2]; exact h4
        · rcases List.mem_cons.mp hy with rfl | hy3
          · have h1 : ((n, c) :: acc).lookup n = some c := by rw [List.lookup_cons, beq_self_eq_true]
            show cl.lookup n = _
            rw [e3 n c h1, hc]
          · exact e4 y hy3 hy2
      · have hb : (k == NameKind.free) = false := by simpa using hk
        obtain ⟨cl, e1, e2, e3, e4⟩ := ih acc hr ha
        refine ⟨cl, ?_, e2, e3, fun y hy hy2 => ?_⟩
        · rw [List.forIn_cons]
          show ((if (k == NameKind.free) = true then (cellOf env n >>= fun c => pure (ForInStep.yield ((n, c) :: acc))) else pure (ForInStep.yield acc)) >>= _) = _
          rw [hb]
          exact e1
        · rcases List.mem_cons.mp hy with rfl | hy3
          · exact absurd hy2 hk
          · exact e4 y hy3 hy2
  obtain ⟨cl, e1, e2, _, e4⟩ := aux scope.names [] hf fun x c e => by cases e
  refine ⟨cl, Eq.trans ?_ e1, e2, e4⟩
  unfold closureFor
  first
    | rfl
    | (simp only [bind_pure]; done)
    | (simp only [bind_pure]; rfl)
    | (simp only [bind_pure]
       congr 1
       funext x r
       obtain ⟨n, k⟩ := x
       cases (k == NameKind.free) <;> rfl)

theorem relabel_of {env : Env} : ∀ {names : List (Str × NameKind)} {x : Str} {k' : NameKind},
    (names.map fun (n, k) => if (k == NameKind.free && env.scope.kind == .function && env.kindOf n == some .cell) then (n, NameKind.cell) else (n, k)).lookup x = some k' →
    names.lookup x = some k' ∨ (names.lookup x = some .free ∧ k' = .cell)
  | [], _, _, h => by simp at h
  | (n, k) :: r, x, k', h => by
    have ih := @relabel_of env r x k'
    rw [List.map_cons] at h
    show List.lookup x ((n, k) :: r) = _ ∨ (List.lookup x ((n, k) :: r) = _ ∧ _)
    rw [List.lookup_cons]
    by_cases hq : (k == NameKind.free && env.scope.kind == .function && env.kindOf n == some .cell) = true
    · have g : List.lookup x ((if (k == NameKind.free && env.scope.kind == .function && env.kindOf n == some .cell) = true then (n, NameKind.cell) else (n, k)) :: _) = _ := h
      rw [if_pos hq, List.lookup_cons] at g
      have hk : k = .free := by
        rw [Bool.and_eq_true, Bool.and_eq_true] at hq
        exact eq_of_beq hq.1.1
      cases hx : x == n with
      | true => rw [hx] at g; rw [hk]; exact .inr ⟨rfl, (Option.some.inj g).symm⟩
      | false => rw [hx] at g; exact ih g
    · have g : List.lookup x ((if (k == NameKind.free && env.scope.kind == .function && env.kindOf n == some .cell) = true then (n, NameKind.cell) else (n, k)) :: _) = _ := h
      rw [if_neg hq, List.lookup_cons] at g
      cases hx : x == n with
      | true => rw [hx] at g; exact .inl g
      | false => rw [hx] at g; exact ih g
theorem relabel_cell {env : Env} (hk : env.scope.kind = .function) {x : Str} (hx : env.kindOf x = some .cell) : ∀ {names : List (Str × NameKind)}, names.lookup x = some .free →
    (names.map fun (n, k) => if (k == NameKind.free && env.scope.kind == .function && env.kindOf n == some .cell) then (n, NameKind.cell) else (n, k)).lookup x = some .cell
  | [], h => by simp at h
  | (n, k) :: r, h => by
    have ih := @relabel_cell env hk x hx r
    show List.lookup x ((if (k == NameKind.free && env.scope.kind == .function && env.kindOf n == some .cell) = true then (n, NameKind.cell) else (n, k)) :: _) = some NameKind.cell
    rw [List.lookup_cons] at h
    cases hxn : x == n with
    | true =>
      rw [hxn] at h
      have ek : k = .free := Option.some.inj h
      have en : x = n := eq_of_beq hxn
      subst ek en
      rw [if_pos (by rw [hk, hx]; rfl), List.lookup_cons, beq_self_eq_true]
    | false =>
      rw [hxn] at h
      by_cases hq : (k == NameKind.free && env.scope.kind == .function && env.kindOf n == some .cell) = true
      · rw [if_pos hq, List.lookup_cons, hxn]; exact ih h
      · rw [if_neg hq, List.lookup_cons, hxn]; exact ih h

/-! ### tests of a clause -/
def PTs (X : Cx) (ifs : List Expr) (t : TT) : Prop :=
  ∀ (pins : List (Addr × Obj)) (s : Shared) (σ : St) (H : Hp) (Q : Bool → Hp → Prop), Inv X pins σ H s → t σ H Q →
    wpAny (model X.prog X.w) X.A (forIn ifs true fun c r => if r = true then do let ok ← isTrue c X.env (eval c X.env); pure (ForInStep.yield ok) else pure (ForInStep.yield r)) (TP X pins σ Q) X.xe s
def tNoIf : TT := fun _ H Q => Q true H
theorem tNoIf_go {σ : St} {H : Hp} {A B : Hp → Prop} (h : A H) : tNoIf σ H fun b H4 => if b = true then A H4 else B H4 := by
  show if true = true then A H else B H
  rw [if_pos rfl]
  exact h
theorem pts_nil {X : Cx} : PTs X [] tNoIf := fun _ _ _ H _ I h => wpAny_tests_nil ⟨H, I, h⟩
theorem pts_one {X : Cx} {c : Expr} {t : TT} (h : PT X c t) : PTs X [c] t := fun pins s σ H Q I q => wpAny_tests_one (h pins s σ H Q I q)

/-- an untracked object is taken into the tracked ones, as it stands -/
theorem HOk.take {P : Program} {w : World} {H : Hp} {h : Heap} {a : Addr} {o : HO} (x : HOk P w H h) (hn : H a = none) (new : ObjOk P w (upd H a o) h a o) : HOk P w (upd H a o) h := fun b u e => by
  by_cases hb : b = a
  · subst hb; rw [upd_same] at e; cases e; exact new
  · rw [upd_ne hb] at e
    exact (x b u e).stay (fun _ _ _ q => q) (fun c q => by rw [upd_ne (ne_of_none q hn)]; exact q) fun c xs q => by rw [upd_ne (ne_of_none q hn)]; exact q

/-- the block's names at its entry: the clause's own first, then those from around (slots js) -/
def blockSt (σ : St) (js : List Nat) : St := js.map fun j => (σ[j]?).getD none
def CompW (js : List Nat) (tt : TT) (te : TE) (σ : St) (Q : VK) (J : It) (H1 : Hp) : Prop := ∃ W : Nat → Nat → List V → Hp → Prop, (∃ m, W 0 m [] H1) ∧ ∀ i m ys H2, W i m ys H2 →
  (J.stop i H2 ∧ ∀ D, H2 D = none → Q (.ref D) (upd H2 D (.lst ys))) ∨
  (J.go i H2 ∧ ys.length < sizeLine ∧ ∃ N : List V → Hp → Prop, (∀ ys' H', N ys' H' → ∃ m', m' < m ∧ W (i + 1) m' ys' H') ∧ ∀ x H3, J.yld i H2 x H3 → tt (some x :: blockSt σ js) H3 fun b H4 =>
    if b = true then te (some x :: blockSt σ js) H4 fun y H5 => N (ys ++ [y]) H5 else N ys H4)
def tComp (wi : TI) (js : List Nat) (tt : TT) (te : TE) : TE := fun σ H Q => wi σ H fun J H1 => CompW js tt te σ Q J H1

abbrev lobj (us : List Value) (n : Nat) : Obj := { cls := .type "list", data := .seq us.toArray n }

section
variable {prog : Program} {w : World} {A : Around} {s : Shared} {R : Result → Shared → Prop}
abbrev NotedR (prog : Program) (w : World) (A : Around) (env : Env) (R : Result → Shared → Prop) : Value → Shared → Prop := notedBy (model prog w) A env fun x t => R (.error x) t
/-- a block's turns, with whatever the iterator lets go of ahead of the store -/
theorem loop_any {elt tg iter : Expr} {ifs : List Expr} {scope : Scope} {pos : Pos} {it acc : Value} {env : Env} (J : Nat → Shared → Prop)
    (step : ∀ k t, J k t → wpAny (model prog w) A (pyNext it) (fun r t1 => match r with
      | none => R (.ok .next) t1
      | some v => wpAny (model prog w) A (letOwnedTupleGo tg it v) (fun _ t2 => wpAny (model prog w) A (assign tg env v) (fun _ t3 =>
          wpAny (model prog w) A (forIn ifs true fun c b => if b = true then do let z ← isTrue c env (eval c env); pure (ForInStep.yield z) else pure (ForInStep.yield b)) (fun z t4 =>
            if z = true then wpAny (model prog w) A (eval elt env) (fun y t5 => wpAny (model prog w) A (call (.builtin "list.append") [acc, y]) (fun _ t6 => ∃ m, m < k ∧ J m t6) (NotedR prog w A env R) t5) (NotedR prog w A env R) t4
            else ∃ m, m < k ∧ J m t4) (NotedR prog w A env R) t3) (NotedR prog w A env R) t2) (NotedR prog w A env R) t1) (NotedR prog w A env R) t)
    (k : Nat) (h : J k s) : codeAny (model prog w) A (.compLoop (.ListComp elt [⟨tg, iter, ifs, 0⟩] scope pos) 0 it acc env) R s := by
  refine codeAny_loop rfl J (fun k t hJ => ?_) k h
  show wpAny _ A ((compTurn (.ListComp elt [⟨tg, iter, ifs, 0⟩] scope pos) 0 it acc env).onRaise (fun y => do noteFrame y env; theTreesLotGoes y)) _ _ t
  refine wpAny_noted ?_
  rw [compTurn_list]
  refine wpAny_bind (wpAny_standAt (wpAny_bind (wpAny_mono (step k t hJ) (fun r t1 q1 => ?_) fun _ _ f => f)))
  cases r with
  | none => exact wpAny_pure q1
  | some v =>
    refine wpAny_bind (wpAny_mono q1 (fun _ t2 q2 => ?_) fun _ _ f => f)
    refine wpAny_bind (wpAny_mono q2 (fun _ t3 q3 => ?_) fun _ _ f => f)
    refine wpAny_bind (wpAny_mono q3 (fun z t4 q4 => ?_) fun _ _ f => f)
    cases z with
    | false => exact wpAny_pure ⟨rfl, q4⟩
    | true => exact wpAny_bind (wpAny_bind (wpAny_mono q4 (fun y t5 q5 => wpAny_bind (wpAny_mono q5 (fun _ t6 q6 => wpAny_pure (wpAny_pure ⟨rfl, q6⟩)) fun _ _ f => f)) fun _ _ f => f))
end
def CompWT (n : Nat) (g : TG) (js : List Nat) (tt : TT) (te : TE) (σ : St) (Q : VK) (J : It) (H1 : Hp) : Prop := ∃ W : Nat → Nat → List V → Hp → Prop, (∃ m, W 0 m [] H1) ∧ ∀ i m ys H2, W i m ys H2 →
  (J.stop i H2 ∧ ∀ D, H2 D = none → Q (.ref D) (upd H2 D (.lst ys))) ∨
  (J.go i H2 ∧ ys.length < sizeLine ∧ ∃ N : List V → Hp → Prop, (∀ ys' H', N ys' H' → ∃ m', m' < m ∧ W (i + 1) m' ys' H') ∧ ∀ x H3, J.yld i H2 x H3 → ∀ v0 : St, v0.length = n → g x (v0 ++ blockSt σ js) H3 fun σ4 H4 =>
    (∃ v1 : St, v1.length = n ∧ σ4 = v1 ++ blockSt σ js) ∧ tt σ4 H4 fun b H5 => if b = true then te σ4 H5 fun y H6 => N (ys ++ [y]) H6 else N ys H5)
def tCompT (wi : TI) (n : Nat) (g : TG) (js : List Nat) (tt : TT) (te : TE) : TE := fun σ H Q => wi σ H fun J H1 => CompWT n g js tt te σ Q J H1
theorem comp_core {X : Cx} {pins : List (Addr × Obj)} {s : Shared} {σ : St} {H : Hp} {Q : VK} {use : Option (Value → Sem Unit)} {R : Value → Shared → Prop} {pos' : Pos} {CW : St → VK → It → Hp → Prop} {elt iter tg : Expr} {xs : List Str} {g : TG} {pos : Pos} {ifs : List Expr} {scope : Scope} {wi : TI} {te : TE} {tt : TT} {fr : List Str} {js : List Nat}
    (hc : X.calm = true) (hi : PI X tg iter wi)
    (hcell : ∀ y ∈ scope.names, y.2 ≠ .cell) (hkind : scope.kind = .function) (hnames : ∀ y ∈ scope.names, y.2 = .local → scope.names.lookup y.1 = some .local)
    (hfr : ∀ y ∈ scope.names, y.2 = .free → X.env.scope.names.lookup y.1 = some .cell) (hjs : js.map (fun j => X.N[j]?) = fr.map some) (hfv : ∀ y ∈ fr, scope.names.lookup y = some .free)
    (hg : ∀ cl C s' H' ex, PG (cxComp X scope cl C (xs ++ fr) s' H' ex) tg g)
    (hb : ∀ cl C s' H' ex, PE (cxComp X scope cl C (xs ++ fr) s' H' ex) elt te ∧ PTs (cxComp X scope cl C (xs ++ fr) s' H' ex) ifs tt)
    (hCW : ∀ σ Q J H1, CW σ Q J H1 → CompWT xs.length g js tt te σ Q J H1) (I : Inv X pins σ H s) (h : wi σ H fun J H1 => CW σ Q J H1)
    (fin : ∀ (s4 : Shared) (H5 : Hp) (D C : Addr) (mC : Str → Option Value), s4.heap.Ns C mC → Inv X pins σ H5 s4 → H5 C = none → C ≠ X.env.locals → C ∉ X.fs → (∀ p ∈ X.pn ++ pins, p.1 ≠ C) → (∀ y c, X.env.cells.lookup y = some c → c ≠ C) → X.s₀.heap.objs.size ≤ C → Q (.ref D) H5 → compPost (model X.prog X.w) X.A X.xe use R (.ref D) C (.ok .next) s4)
    (hs : ∀ z, foldedSetIterable iter X.env z = pure z := by intro _; rfl) :
    wpAny (model X.prog X.w) X.A (comprehension (.ListComp elt [⟨tg, iter, ifs, 0⟩] scope pos) scope X.env pos' (newList []) false (eval iter X.env) use) R X.xe s := by
  have hXk : X.env.scope.kind = .function := I.ok.kind
  obtain ⟨cl, hclos, c1, c2⟩ := closure_has (scope := scope) (env := X.env) fun y hy hk => I.ok.has _ (.inl (hfr y hy hk))
  refine wpAny_comprehension_free rfl hs hclos hkind hnames (thn (hi pins s σ H _ I h) fun xv s1 h1 => thn h1 fun itv s2 h2 => ?_)
  obtain ⟨it, fp, tn, J, H2, rfl, I2, T, st2, f2, hcw⟩ := h2
  obtain ⟨W, ⟨m0, w0⟩, turn⟩ := hCW _ _ _ _ hcw
  refine wpAny_newObj_type (wpAny_newFunctionEnv hcell (by intro y hy; simp at hy) (fun hA nsA sbA => ?_) hkind)
  dsimp only at nsA sbA ⊢
  generalize hG : s2.heap.push { cls := .type "list", dict := none, data := .seq ([] : List Value).toArray } = G at nsA sbA ⊢
  -- D: the list; C: the block's names
  have hC : G.objs.size = s2.heap.objs.size + 1 := by rw [← hG, Heap.size_push]
  have hDC : s2.heap.objs.size ≠ G.objs.size := by rw [hC]; exact Nat.ne_of_lt (Nat.lt_succ_self _)
  have small : ∀ b o, s2.heap.get? b = some o → b ≠ G.objs.size ∧ b ≠ s2.heap.objs.size := fun b o e => ⟨by rw [hC]; exact Nat.ne_of_lt (Nat.lt_succ_of_lt (Heap.lt_size e)), Nat.ne_of_lt (Heap.lt_size e)⟩
  have old : ∀ b o, s2.heap.get? b = some o → hA.get? b = some o := fun b o e => sbA.extBut b o (small b o e).1 (Heap.get?_push_of_some _ (hG ▸ Heap.get?_push_of_some _ e))
  have hDA : hA.get? s2.heap.objs.size = some (lobj [] 0) := sbA.extBut _ _ hDC (Heap.get?_push_of_some _ (hG ▸ Heap.get?_push_size _ rfl))
  have fpo : ∀ b ∈ fp, ∃ o, s2.heap.get? b = some o := fun b hb => let ⟨o, e, _⟩ := T.obj _ _ st2 b hb; ⟨o, e⟩
  have celo : ∀ y c, cl.lookup y = some c → ∃ o, s2.heap.get? c = some o := fun y c e => let ⟨_, o, ho, _⟩ := I2.cell y c (c1 y c e); ⟨o, ho⟩
  have ok' : (cxComp X scope cl G.objs.size (xs ++ fr) s2 H2 fp).Ok := by
    refine ⟨I2.ok.mod, hkind, I2.ok.glob, I2.ok.blt, ?_, fun a b c e1 e2 => I2.ok.inj a b c (c1 a c e1) (c1 b c e2), fun y hy => ?_, fun _ _ z => absurd z (by intro q; cases q), I2.ok.hd, I2.ok.frames, .inl rfl, fun b hb => ?_, I2.bs, Nat.le_trans I2.ok.bsz I2.sz, fun b o e hb => ?_, fun b hb hz => ?_, I2.stack, I2.stkFree⟩
    · show s2.heap.objs.size ≤ G.objs.size
      rw [hC]; exact Nat.le_succ _
    · have hy : (relabel scope X.env).names.lookup y = some .cell ∨ (relabel scope X.env).names.lookup y = some .free := hy
      have key : scope.names.lookup y = some .free := by
        rcases hy with hy | hy
        · rcases relabel_of hy with q | ⟨q, _⟩
          · exact absurd rfl (hcell _ (PySem.mem_of_lookup q))
          · exact q
        · rcases relabel_of hy with q | ⟨q, _⟩
          · exact q
          · exact q
      have hm := PySem.mem_of_lookup key
      obtain ⟨c, e⟩ := I.ok.has y (.inl (hfr _ hm rfl))
      exact ⟨c, (c2 _ hm rfl).trans e⟩
    · obtain ⟨o, e⟩ := fpo b hb
      exact ⟨(small b o e).1, fun y c q => (f2 b hb).2.2.2.2.1 y c (c1 y c q)⟩
    · obtain ⟨_, _, _, f3, _⟩ := f2 b hb
      rcases f3 with f3 | f3
      · exact I2.ok.noex b o e f3
      · exact absurd (Nat.lt_of_lt_of_le (Heap.lt_size e) (Nat.le_trans I2.ok.bsz f3)) (Nat.lt_irrefl _)
    · obtain ⟨_, n1, n2, _⟩ := f2 b hb
      exact (List.mem_cons.mp (I2.stkSub b hz)).elim n1 n2
  have nofs : s2.heap.objs.size ∉ frs X.stack := fun hz => by
    obtain ⟨_, o, ho, _⟩ := I2.stack.mem hz
    exact Nat.lt_irrefl _ (Heap.lt_size ho)
  have lenB : (blockSt σ js).length = fr.length := by
    have e := congrArg List.length hjs
    rw [List.length_map, List.length_map] at e
    unfold blockSt
    rw [List.length_map]; exact e
  have start' : ∀ t, Inv (cxComp X scope cl G.objs.size (xs ++ fr) s2 H2 fp) [(s2.heap.objs.size, lobj [] 0)] ((xs.map fun _ => none) ++ blockSt σ js) H2 { s2 with heap := hA, toks := t } := fun t => by
    refine ⟨ok', rfl, I2.bare, Un.kept old, ⟨_, nsA, fun i y v e1 e2 e3 => ?_⟩, fun y c e => ?_, I2.hok.fresh (by rw [hC]; exact Nat.le_succ _), fun y c e => I2.freeC y c (c1 y c e), fun p hp => ?_, I2.hok.kept old, ?_⟩
    · by_cases hix : i < xs.length
      · rw [List.getElem?_append_left (by rw [List.length_map]; exact hix), List.getElem?_map, List.getElem?_eq_getElem hix] at e2
        cases e2
      · obtain ⟨i, rfl⟩ : ∃ j, i = xs.length + j := ⟨i - xs.length, by omega⟩
        have e1 : (xs ++ fr)[xs.length + i]? = some y := e1
        have e1 : fr[i]? = some y := by rw [List.getElem?_append_right (by omega), show xs.length + i - xs.length = i by omega] at e1; exact e1
        have e2 : (blockSt σ js)[i]? = some (some v) := by rw [List.getElem?_append_right (by rw [List.length_map]; omega), List.length_map, show xs.length + i - xs.length = i by omega] at e2; exact e2
        unfold blockSt at e2
        rw [List.getElem?_map] at e2
        obtain ⟨j, ej, e2⟩ := Option.map_eq_some_iff.mp e2
        have hN : X.N[j]? = some y := by
          have q := congrArg (fun l => l[i]?) hjs
          simp only [List.getElem?_map, ej, e1, Option.map_some] at q
          exact Option.some.inj q
        have hσ : σ[j]? = some (some v) := by
          cases z : σ[j]? with
          | none => rw [z] at e2; cases e2
          | some w => rw [z] at e2; exact congrArg some e2
        have hfree := hfv y (List.mem_of_getElem? e1)
        have hm := PySem.mem_of_lookup hfree
        have hce : X.env.scope.names.lookup y = some .cell := hfr _ hm rfl
        obtain ⟨m, _, hl⟩ := I2.loc
        obtain ⟨u, ru, look⟩ := hl j y v hN hσ (.inr (.inl hce))
        refine ⟨u, ru, .inr ⟨.inl (relabel_cell hXk hce hfree), ?_⟩⟩
        rcases look with ⟨k, _⟩ | ⟨_, c, ec, ho⟩
        · have k : X.env.scope.names.lookup y = some .local := k
          rw [hce] at k; cases k
        · obtain ⟨o, ho, hd⟩ := ho
          exact ⟨c, (c2 _ hm rfl).trans ec, o, old c o ho, hd⟩
    · obtain ⟨v, o, ho, hd⟩ := I2.cell y c (c1 y c e)
      exact ⟨v, o, old c o ho, hd⟩
    · have hp : p ∈ [(s2.heap.objs.size, lobj [] 0)] := hp
      have e := List.mem_singleton.mp hp
      subst e
      exact ⟨hDA, I2.hok.fresh (Nat.le_refl _), hDC, nofs, fun v z => by cases z⟩
    · show ((xs.map fun _ => none) ++ blockSt σ js).length = (xs ++ fr).length
      rw [List.length_append, List.length_append, List.length_map, lenB]
  have fok : ∀ {us : List Value} {n : Nat} {H' : Hp}, (∀ b ∈ fp, H' b = none) → ∀ b ∈ fp, FpOk (cxComp X scope cl G.objs.size (xs ++ fr) s2 H2 fp) [(s2.heap.objs.size, lobj us n)] H' b := fun {us n H'} hn b hb => by
    obtain ⟨o, e⟩ := fpo b hb
    refine ⟨hn b hb, (small b o e).1, fun hz => (List.mem_cons.mp (I2.stkSub b hz)).elim (f2 b hb).2.1 (f2 b hb).2.2.1, .inl hb, fun y c q => (f2 b hb).2.2.2.2.1 y c (c1 y c q), fun p hp => ?_⟩
    have hp : p ∈ [(s2.heap.objs.size, lobj us n)] := hp
    have ep := List.mem_singleton.mp hp
    subst ep
    exact fun z => (small b o e).2 z.symm
  have loop : ∀ sB : Shared, (∃ t, sB = { s2 with heap := hA, toks := t }) →
      codeAny (model X.prog X.w) X.A (.compLoop (.ListComp elt [⟨tg, iter, ifs, 0⟩] scope pos) 0 (.ref it) (.ref s2.heap.objs.size) (compEnvC scope cl G.objs.size X.env))
        (compPost (model X.prog X.w) X.A X.xe use R (.ref s2.heap.objs.size) G.objs.size) sB := by
    rintro sB ⟨t, rfl⟩
    refine loop_any (fun k s' => ∃ i ys us n v0 H', v0.length = xs.length ∧ Inv (cxComp X scope cl G.objs.size (xs ++ fr) s2 H2 fp) [(s2.heap.objs.size, lobj us n)] (v0 ++ blockSt σ js) H' s' ∧ Vals ys us ∧ ys.length ≤ sizeLine ∧ tn i s'.heap ∧ (∀ b ∈ fp, H' b = none) ∧ W i k ys H') ?_ m0
      ⟨0, [], [], 0, xs.map fun _ => none, H2, List.length_map .., start' t, .nil, Nat.zero_le _, T.keep _ _ _ st2 fun b hb o e => old b o e, fun b hb => (f2 b hb).1, w0⟩
    rintro k s3 ⟨i, ys, us, n, v0, H3, hv0, I3, rv, hlen, st3, fr3, w3⟩
    rcases turn i k ys H3 w3 with ⟨stop, qn⟩ | ⟨go, hlt, N', hN', step⟩
    · refine thn (T.done (cxComp X scope cl G.objs.size (xs ++ fr) s2 H2 fp) rfl rfl rfl hc i _ s3 _ H3 _ I3 (fok fr3) st3 stop) fun r s4 ⟨hr, I4⟩ => ?_
      subst hr
      obtain ⟨mC, hnC, _⟩ := id I4.loc
      obtain ⟨pD, nD, _, _, _⟩ := I4.pin (s2.heap.objs.size, lobj us n) (by show _ ∈ [] ++ [_]; simp)
      have pD : s4.heap.get? s2.heap.objs.size = some (lobj us n) := pD
      have nD : H3 s2.heap.objs.size = none := nD
      have nC : H3 G.objs.size = none := I4.free
      have D2 : ∀ b o, s2.heap.get? b = some o → b ≠ s2.heap.objs.size := fun b o e => (small b o e).2
      have base4 : Un (frs X.stack) fp H2 H3 s2.heap s4.heap := I4.base
      have u4 : Un (frs X.stack) fp H2 (upd H3 s2.heap.objs.size (.lst ys)) s2.heap s4.heap :=
        { keep := base4.keep
          slot := base4.slot
          free := fun b o e nb hx' => by rw [upd_ne (D2 b o e)]; exact base4.free b o e nb hx'
          there := base4.there
          tups := fun b xs e => by have q := base4.tups b xs e; rw [upd_ne (ne_of_none q nD)]; exact q
          frzs := fun b o u e => by have q := base4.frzs b o u e; rw [upd_ne (ne_of_none q nD)]; exact q
          tbls := fun b ps e => by obtain ⟨more, q⟩ := base4.tbls b ps e; exact ⟨more, by rw [upd_ne (ne_of_none q nD)]; exact q⟩ }
      have I5 : Inv X pins σ (upd H3 s2.heap.objs.size (.lst ys)) s4 := I2.call' (s' := s4) (ch := fp) I4.os u4 (I4.hok.take nD ⟨hlen, us, n, rv, pD⟩) I4.bare fun b hb => by
        obtain ⟨_, g1, _, g3, g4, g5⟩ := f2 b hb
        exact ⟨g3, g1, g4, g5⟩
      have locC : G.objs.size ≠ X.env.locals := fun z => by
        obtain ⟨_, ⟨o, _, _, ho, _⟩, _⟩ := id I2.loc
        exact (small _ o ho).1 z.symm
      have fsC : G.objs.size ∉ X.fs := fun hz => by
        obtain ⟨_, o, ho, _⟩ := I2.ok.funs.mem hz
        have := Nat.lt_of_lt_of_le (Heap.lt_size ho) I2.sz
        rw [hC] at this
        exact Nat.lt_irrefl _ (Nat.lt_of_succ_lt this)
      have pinX : ∀ p ∈ X.pn ++ pins, p.1 ≠ G.objs.size := fun p hp => (small _ _ (I2.pin p hp).1).1
      have nCu : (upd H3 s2.heap.objs.size (.lst ys)) G.objs.size = none := by rw [upd_ne (Ne.symm hDC)]; exact nC
      refine fin s4 _ _ _ mC hnC I5 nCu locC fsC pinX (fun y c q z => ?_) (Nat.le_trans I2.sz (by rw [hC]; exact Nat.le_succ _)) (qn _ nD)
      obtain ⟨v, o, ho, _⟩ := I2.cell y c q
      exact (small c o ho).1 z
    · refine thn (T.item (cxComp X scope cl G.objs.size (xs ++ fr) s2 H2 fp) rfl rfl rfl hc i _ s3 _ H3 _ I3 (fok fr3) st3 go) fun r s4 ⟨u, hr, h4⟩ => ?_
      subst hr
      refine thn h4 fun _ s5 ⟨v, H5, I5, r5, y5, st5, fr5⟩ => ?_
      have I5' := I5.pinned (fok fr5) (T.obj _ _ st5)
      refine wpAny_mono (hg cl G.objs.size s2 H2 fp _ s5 _ H5 v u _ I5' r5 (step v H5 y5 v0 hv0)) (fun _ s6 ⟨σ6, H6, I6, ⟨w1, hw1, e6⟩, q6⟩ => ?_) fun _ _ f => f.elim
      subst e6
      refine wpAny_mono ((hb cl G.objs.size s2 H2 fp).2 _ s6 _ H6 _ I6 q6) (fun b s7 ⟨H7, I7, q7⟩ => ?_) fun _ _ f => f.elim
      have back : ∀ {s8 : Shared} {H8 : Hp}, Inv (cxComp X scope cl G.objs.size (xs ++ fr) s2 H2 fp) ([(s2.heap.objs.size, lobj us n)] ++ pinsAt fp s5.heap) (w1 ++ blockSt σ js) H8 s8 → tn (i + 1) s8.heap ∧ ∀ b ∈ fp, H8 b = none := fun {s8 H8} I8 => by
        refine ⟨T.keep _ _ _ st5 fun b hb o e => (I8.pin (b, o) (List.mem_append_right _ (List.mem_append_right _ (mem_pinsAt hb e)))).1, fun b hb => ?_⟩
        obtain ⟨o, e, _⟩ := T.obj _ _ st5 b hb
        exact (I8.pin (b, o) (List.mem_append_right _ (List.mem_append_right _ (mem_pinsAt hb e)))).2.1
      cases b with
      | false =>
        obtain ⟨m', hm, w7⟩ := hN' _ _ q7
        obtain ⟨t7, n7⟩ := back I7
        exact ⟨m', hm, i + 1, ys, us, n, w1, H7, hw1, I7.unpinned, rv, hlen, t7, n7, w7⟩
      | true =>
        refine wpAny_mono ((hb cl G.objs.size s2 H2 fp).1 _ s7 _ H7 _ I7 q7) (fun y' s8 ⟨y, H8, I8, r8, q8⟩ => ?_) fun _ _ f => f.elim
        obtain ⟨m', hm, w8⟩ := hN' _ _ q8
        obtain ⟨t8, n8⟩ := back I8
        have I8' := I8.unpinned
        obtain ⟨pD, nD, _, _, _⟩ := I8'.pin (s2.heap.objs.size, lobj us n) (by show _ ∈ [] ++ [_]; simp)
        have pD : s8.heap.get? s2.heap.objs.size = some (lobj us n) := pD
        have nD : H8 s2.heap.objs.size = none := nD
        refine append_at pD (fun h9 hs9 e9 => ?_) (by rw [List.size_toArray, ← rv.length]; exact hlen)
        have e9 : h9.get? s2.heap.objs.size = some (lobj (us ++ [y']) (n + 1)) := by rw [e9]; simp [lobj]
        have J0 : Inv (cxComp X scope cl G.objs.size (xs ++ fr) s2 H2 fp) [] (w1 ++ blockSt σ js) H8 s8 := I8'.pins_of fun p hp => absurd hp (by simp)
        have J9 : Inv (cxComp X scope cl G.objs.size (xs ++ fr) s2 H2 fp) [] (w1 ++ blockSt σ js) H8 { s8 with heap := h9, toks := s8.toks } :=
          J0.turned (it := s2.heap.objs.size) (fun b o hb' e => hs9.extBut b o hb' e) nD hDC (.inr (Nat.le_refl _)) (fun y0 c q z => by
            obtain ⟨o, e⟩ := celo y0 c q
            exact (small c o e).2 z) fun p hp => absurd (show p ∈ ([] : List (Addr × Obj)) from hp) (by simp)
        refine ⟨m', hm, i + 1, ys ++ [y], us ++ [y'], n + 1, w1, H8, hw1, J9.pins_of fun p hp => ?_, rv.append (.cons r8 .nil), (by rw [List.length_append, List.length_singleton]; exact hlt), T.keep _ _ _ t8 fun b hb' o e => hs9.extBut b o (by
          obtain ⟨o', e'⟩ := fpo b hb'
          exact (small b o' e').2) e, n8, w8⟩
        have ep := List.mem_singleton.mp hp
        subst ep
        exact ⟨e9, nD, hDC, nofs, fun v z => by cases z⟩
  exact codeAny_compStart_list (loop _ ⟨_, rfl⟩) (T.self _ 0 _ _ _ (T.keep _ _ _ st2 fun b hb o e => old b o e) (loop _ ⟨_, rfl⟩))

theorem pe_compC {X : Cx} {CW : St → VK → It → Hp → Prop} {elt iter tg : Expr} {xs : List Str} {g : TG} {pos : Pos} {ifs : List Expr} {scope : Scope} {wi : TI} {te : TE} {tt : TT} {fr : List Str} {js : List Nat}
    (hc : X.calm = true) (hi : PI X tg iter wi)
    (hcell : ∀ y ∈ scope.names, y.2 ≠ .cell) (hkind : scope.kind = .function) (hnames : ∀ y ∈ scope.names, y.2 = .local → scope.names.lookup y.1 = some .local)
    (hfr : ∀ y ∈ scope.names, y.2 = .free → X.env.scope.names.lookup y.1 = some .cell) (hjs : js.map (fun j => X.N[j]?) = fr.map some) (hfv : ∀ y ∈ fr, scope.names.lookup y = some .free)
    (hg : ∀ cl C s' H' ex, PG (cxComp X scope cl C (xs ++ fr) s' H' ex) tg g)
    (hb : ∀ cl C s' H' ex, PE (cxComp X scope cl C (xs ++ fr) s' H' ex) elt te ∧ PTs (cxComp X scope cl C (xs ++ fr) s' H' ex) ifs tt)
    (hCW : ∀ σ Q J H1, CW σ Q J H1 → CompWT xs.length g js tt te σ Q J H1) (hs : ∀ z, foldedSetIterable iter X.env z = pure z := by intro _; rfl) :
    PE X (.ListComp elt [⟨tg, iter, ifs, 0⟩] scope pos) (fun σ H Q => wi σ H fun J H1 => CW σ Q J H1) := by
  intro pins s σ H Q I h
  rw [eval_ListComp]
  exact comp_core (use := none) (R := EP X pins σ Q) hc hi hcell hkind hnames hfr hjs hfv hg hb hCW I h (fun s4 H5 D C mC n I5 nC lC fC pC cC sC q => ⟨mC, n, fun h' hsb => ⟨.ref D, H5, I5.turned (t' := s4.toks) (it := C) (fun b o hb' e => hsb.extBut b o hb' e) nC lC (.inr sC) cC pC, rfl, q⟩⟩) hs
theorem compW_T {js : List Nat} {tt : TT} {te : TE} {σ : St} {Q : VK} {J : It} {H1 : Hp} (h : CompW js tt te σ Q J H1) : CompWT 1 (gName 0) js tt te σ Q J H1 := by
  obtain ⟨W, w0, turn⟩ := h
  refine ⟨W, w0, fun i m ys H2 hw => ?_⟩
  rcases turn i m ys H2 hw with h | ⟨h1, h2, N, h3, h4⟩
  · exact .inl h
  · refine .inr ⟨h1, h2, N, h3, fun x H3 hy v0 hv => ?_⟩
    obtain ⟨w, rfl⟩ : ∃ w, v0 = [w] := by
      obtain _ | ⟨w, v0⟩ := v0
      · cases hv
      · obtain _ | ⟨z, v0⟩ := v0
        · exact ⟨w, rfl⟩
        · cases hv
    exact ⟨⟨[some x], rfl, rfl⟩, h4 x H3 hy⟩
theorem pe_comp {X : Cx} {elt iter : Expr} {x : Str} {px pos : Pos} {ifs : List Expr} {scope : Scope} {wi : TI} {te : TE} {tt : TT} {fr : List Str} {js : List Nat}
    (hc : X.calm = true) (hi : PI X (.Name x px) iter wi)
    (hcell : ∀ y ∈ scope.names, y.2 ≠ .cell) (hkind : scope.kind = .function) (hnames : ∀ y ∈ scope.names, y.2 = .local → scope.names.lookup y.1 = some .local) (hx : scope.names.lookup x = some .local)
    (hfr : ∀ y ∈ scope.names, y.2 = .free → X.env.scope.names.lookup y.1 = some .cell) (hnd : (x :: fr).Nodup) (hjs : js.map (fun j => X.N[j]?) = fr.map some) (hfv : ∀ y ∈ fr, scope.names.lookup y = some .free)
    (hb : ∀ cl C s' H' ex, PE (cxComp X scope cl C (x :: fr) s' H' ex) elt te ∧ PTs (cxComp X scope cl C (x :: fr) s' H' ex) ifs tt)
    (hs : ∀ z, foldedSetIterable iter X.env z = pure z := by intro _; rfl) :
    PE X (.ListComp elt [⟨.Name x px, iter, ifs, 0⟩] scope pos) (tComp wi js tt te) :=
  pe_compC (xs := [x]) (g := gName 0) hc hi hcell hkind hnames hfr hjs hfv (fun _ _ _ _ _ => pg_name hnd rfl (.inl (lookup_relabel_local hx)) (.inr (lookup_relabel_local hx))) hb (fun _ _ _ _ h => compW_T h) hs
/-- over a tuple that the block leaves as it is -/
theorem comp_tup {K : PySem.W.Frag} {a : Addr} {xs : List V} {js : List Nat} {tt : TT} {te : TE} {σ : St} {H : Hp} {Q : VK} (Pv : Nat → List V → Hp → Prop) (h0 : Pv 0 [] H) (hl : ∀ i ys H, i ≤ xs.length → Pv i ys H → SqT K H a xs ∧ ys.length ≤ i) (hz : xs.length ≤ sizeLine)
    (hs : ∀ i x ys H, xs[i]? = some x → Pv i ys H → tt (some x :: blockSt σ js) H fun b H4 => if b = true then te (some x :: blockSt σ js) H4 fun y H5 => Pv (i + 1) (ys ++ [y]) H5 else Pv (i + 1) ys H4)
    (hd : ∀ ys H, Pv xs.length ys H → ∀ D, H D = none → Q (.ref D) (upd H D (.lst ys))) : CompW js tt te σ Q (Itt K a) H := by
  refine ⟨fun i m ys H => i ≤ xs.length ∧ m = xs.length - i ∧ Pv i ys H, ⟨_, Nat.zero_le _, rfl, h0⟩, fun i m ys H2 ⟨hi, hm, hp⟩ => ?_⟩
  obtain ⟨hq, hy⟩ := hl i ys H2 hi hp
  by_cases e : i = xs.length
  · subst e
    exact .inl ⟨⟨xs, hq, Nat.le_refl _⟩, hd ys H2 hp⟩
  · have hlt : i < xs.length := Nat.lt_of_le_of_ne hi e
    refine .inr ⟨⟨xs, _, hq, List.getElem?_eq_getElem hlt⟩, by omega, Pv (i + 1), fun ys' H' hp' => ⟨xs.length - (i + 1), by omega, by omega, rfl, hp'⟩, fun x H3 hy3 => ?_⟩
    obtain ⟨e3, hx⟩ := hy3
    subst e3
    exact hs i x ys H3 (hx xs hq) hp
end L2

/-! zip(t, l) of a tuple and a list, walked by a loop with two targets. -/
namespace L2
open PySem PySem.Spec PyProof.Rows
section
variable {prog : Program} {w : World} {A : Around} {E : Value → Shared → Prop} {s : Shared}

theorem nextT_item {j t : Addr} {i : Nat} {its} {v : Value} {Q : Value → Shared → Prop} (jt : s.heap.IsTupleIter j t i) (tt : s.heap.IsTuple t its) (hv : its[i]? = some v)
    (q : ∀ g, g.IsTupleIter j t (i + 1) → Heap.SameBut j s.heap g → Q v { s with heap := g }) : wpAny (model prog w) A (Builtin.SmallTypes.nextOf (.ref j)) Q E s := by
  obtain ⟨ob, e1, e2, e3⟩ := id jt
  obtain ⟨ot, g1, _, k, g2⟩ := tt
  unfold Builtin.SmallTypes.nextOf
  refine wpAny_bind (wpAny_callSpecial?_slot (name := Str.ofString "__next__") jt.typeIs F.slot_tuple_iterator_next (wpAny_call_entry F.slot_tuple_iterator_next jt.typeIs F.entry_tuple_iterator_next ?_ (F.args_tuple_iterator_next_1 _)))
  show wpAny _ _ (field (.ref j) 0 >>= _) _ _ s
  refine wpAny_bind (wpAny_field e1 e3 (x := .ref t) rfl ?_)
  show wpAny _ _ (ite ((Value.ref t == Value.none) = true) _ _) _ _ s
  rw [if_neg (fun z : (Value.ref t == Value.none) = true => Bool.false_ne_true z)]
  show wpAny _ _ (field (.ref j) 1 >>= _) _ _ s
  refine wpAny_bind (wpAny_field e1 e3 (x := .int i 0) rfl ?_)
  show wpAny _ _ (seqItems? (.ref t) >>= _) _ _ s
  refine wpAny_bind (wpAny_seqItems g1 g2 ?_)
  simp only [Int.toNat_natCast, hv]
  refine wpAny_bind (wpAny_setField e1 e3 (by simp) (wpAny_pure ⟨v, rfl, wpAny_pure (q _ ?_ (Heap.SameBut.update ..))⟩))
  exact ⟨_, Heap.get?_update_self _ e1 (Obj.isFreed_of_fields (Obj.data_mapFields e3 _)), (Obj.cls_mapFields ..).trans e2, by rw [Obj.data_mapFields e3]; simp [rawInt]⟩

theorem nextT_end {j t : Addr} {i : Nat} {its} {Q : Value → Shared → Prop} (hh : A.handled = none) (jt : s.heap.IsTupleIter j t i) (tt : s.heap.IsTuple t its) (hv : its[i]? = none)
    (q : ∀ g x, Heap.ExtBut j s.heap g → (∃ o, g.get? x = some o ∧ o.cls = .type "StopIteration") → E (.ref x) { s with heap := g }) : wpAny (model prog w) A (Builtin.SmallTypes.nextOf (.ref j)) Q E s := by
  obtain ⟨ob, e1, e2, e3⟩ := id jt
  obtain ⟨ot, g1, _, k, g2⟩ := tt
  unfold Builtin.SmallTypes.nextOf
  refine wpAny_bind (wpAny_callSpecial?_slot (name := Str.ofString "__next__") jt.typeIs F.slot_tuple_iterator_next (wpAny_call_entry F.slot_tuple_iterator_next jt.typeIs F.entry_tuple_iterator_next ?_ (F.args_tuple_iterator_next_1 _)))
  show wpAny _ _ (field (.ref j) 0 >>= _) _ _ s
  refine wpAny_bind (wpAny_field e1 e3 (x := .ref t) rfl ?_)
  show wpAny _ _ (ite ((Value.ref t == Value.none) = true) _ _) _ _ s
  rw [if_neg (fun z : (Value.ref t == Value.none) = true => Bool.false_ne_true z)]
  show wpAny _ _ (field (.ref j) 1 >>= _) _ _ s
  refine wpAny_bind (wpAny_field e1 e3 (x := .int i 0) rfl ?_)
  show wpAny _ _ (seqItems? (.ref t) >>= _) _ _ s
  refine wpAny_bind (wpAny_seqItems g1 g2 ?_)
  simp only [Int.toNat_natCast, hv]
  refine wpAny_bind (wpAny_rule (wpAny_bind (wpAny_setField e1 e3 (by simp) ?_)))
  show wpAny _ _ (newExc (.type "StopIteration") [] >>= _) _ _ _
  refine wpAny_bind ?_
  simp only [newExc, newTuple]
  refine wpAny_bind (wpAny_newObj_type ?_ (by size_fits))
  refine wpAny_bind (m := firstArgMember _ _) (wpAny_of_eq (a := Value.none) (by first | rfl | (unfold firstArgMember; rfl)) ?_)
  refine wpAny_newObj_type ?_ (by size_fits)
  simp only [raiseNew]
  refine wpAny_bind (wpAny_handled ?_)
  first | rw [show A.in1.handled = none from hh] | rw [hh]
  exact wpAny_bind (wpAny_pure (wpAny_throw (q _ _ (((Heap.SameBut.update ..).extBut.push _).push _) ⟨_, Heap.get?_push_size _ rfl, rfl⟩)))

/-- the records of a zip, apart from one another and from what it walks -/
structure ZAp (z TI TO i1 i2 a b : Addr) : Prop where
  p1 : TI ≠ z
  p2 : TO ≠ z
  p3 : i1 ≠ z
  p4 : i2 ≠ z
  p5 : TI ≠ TO
  p6 : TI ≠ i1
  p7 : TI ≠ i2
  p8 : TO ≠ i1
  p9 : TO ≠ i2
  p10 : i1 ≠ i2
  a1 : a ≠ z
  a2 : a ≠ TO
  a3 : a ≠ i1
  a4 : a ≠ i2
  b1 : b ≠ z
  b2 : b ≠ TO
  b3 : b ≠ i1
  b4 : b ≠ i2

end
/-! t * k of a tuple -/
section
open AutoSeq1 (wpAny_loadPart')
end
end L2

/-! zip and t * k, by the layer. -/
namespace L2
open PySem PySem.Spec PyProof.Rows
section
variable {X : Cx}
/-! ### zip(t, l) -/
structure Z5 (z TI TO i1 i2 : Addr) : Prop where
  p1 : TI ≠ z
  p2 : TO ≠ z
  p3 : i1 ≠ z
  p4 : i2 ≠ z
  p5 : TI ≠ TO
  p6 : TI ≠ i1
  p7 : TI ≠ i2
  p8 : TO ≠ i1
  p9 : TO ≠ i2
  p10 : i1 ≠ i2
/-- several records of ours have turned, a new object may be taken -/
theorem Inv.turnAll {pins : List (Addr × Obj)} {σ : St} {H H' : Hp} {s : Shared} {g : Heap} {ch : List Addr} (I : Inv X pins σ H s) (hf : ∀ b ∈ ch, FpOk X pins H b)
    (k : ∀ b o, b ∉ ch → s.heap.get? b = some o → g.get? b = some o) (hH : ∀ b u, H b = some u → H' b = some u) (hN : ∀ b o, s.heap.get? b = some o → H b = none → H' b = none) (hok : HOk X.prog X.w H' g) : Inv X pins σ H' { s with heap := g } := by
  refine I.step (g' := s.gens) (d' := s.drawn) (t' := s.toks) (ch := ch) (fun b hb => ?_) (fun b o _ _ hc e _ => k b o hc e) (fun b o _ _ hc e _ => ⟨o.slots, k b o hc e⟩) (fun b o _ e n => hN b o e n)
    (fun b o hc e => ⟨o, k b o hc e⟩) (fun b xs e => hH b _ e) (fun b o u e => hH b _ e) (fun b ps e => ⟨#[], by rw [hH b _ e]; simp⟩) (fun m hm => ?_) hok I.bare
  · obtain ⟨_, f1, _, f3, f4, f5⟩ := hf b hb
    exact ⟨f3, f1, f4, f5⟩
  · obtain ⟨o, es, ep, ho, r⟩ := hm
    exact ⟨o, es, ep, k _ o (fun hb => (hf _ hb).2.1 rfl) ho, r⟩
end
end L2

/-! loops over zip, by a word; {} -/
namespace L2
open PySem PySem.Spec PyProof.Rows
theorem Same.put {H H1 : Hp} (e : Same H H1) {p : Addr} {o : HO} (h : H1 p = none) : Same H (upd H1 p o) := fun b u q => by rw [upd_ne (ne_of_none (e b u q) h)]; exact e b u q
section
variable {X : Cx} {pins : List (Addr × Obj)} {σ : St} {H : Hp} {s : Shared} {pos : Pos}
end
end L2

/-! made things, the heap behind them a letter -/
namespace L2
open PySem PySem.Spec PyProof.Rows
section
variable {X : Cx}
theorem PE.imp {e : Expr} {t t' : TE} (h : PE X e t) (i : ∀ σ H Q, t' σ H Q → t σ H Q) : PE X e t' := fun pins s σ H Q I q => h pins s σ H Q I (i σ H Q q)
theorem CallR.imp {f : Value} {r r' : List V → Hp → VK → Prop} (h : CallR X f r) (i : ∀ xs H Q, r' xs H Q → r xs H Q) : CallR X f r' := fun pins s σ H xs us Q I rv q => h pins s σ H xs us Q I rv (i xs H Q q)
theorem SlR.imp {r r' : V → Option Int → Option Int → Hp → VK → Prop} (h : SlR X r) (i : ∀ x lo hi H Q, r' x lo hi H Q → r x lo hi H Q) : SlR X r' := fun pins s σ H x v vl vu lo hi sl Q I rx hs pl pu q => h pins s σ H x v vl vu lo hi sl Q I rx hs pl pu (i x lo hi H Q q)
def tACut (t : TA) : TA := fun σ H R => ∃ R' : List V → Hp → Prop, (∀ xs H, R' xs H → R xs H) ∧ t σ H R'
theorem PA.cut {es : List Expr} {t : TA} (h : PA X es t) : PA X es (tACut t) := fun pos pins s σ H Q I ⟨R', i, q⟩ =>
  thn (h pos pins s σ H R' I q) fun us s' ⟨vs, H', I', rv, q'⟩ => ⟨vs, H', I', rv, i _ _ q'⟩
/-- an object is new at p, all else stands -/
def New (H : Hp) (o : HO) (Q : VK) : Prop := ∀ p H', Same H H' → H' p = some o → Q (.ref p) H'
theorem New.of {H : Hp} {o : HO} {Q : VK} (h : New H o Q) : ∀ p, H p = none → Q (.ref p) (upd H p o) := fun p hp => h p _ (Same.put (Same.refl H) hp) upd_same
def tTupA (t : TA) : TE := fun σ H Q => t σ H fun xs H1 => xs.length ≤ sizeLine ∧ New H1 (.tup xs) Q
def tLstA (t : TA) : TE := fun σ H Q => t σ H fun xs H1 => xs.length ≤ sizeLine ∧ New H1 (.lst xs) Q
theorem pe_tupA {es : List Expr} {t : TA} {x1} {pos : Pos} (h : PA X es t) : PE X (.Tuple es x1 pos) (tTupA t) := (pe_tup h.cut).imp fun _ _ _ q => ⟨_, fun _ _ z => ⟨z.1, z.2.of⟩, q⟩
theorem pe_lstA {es : List Expr} {t : TA} {pos : Pos} (h : PA X es t) : PE X (.List es pos) (tLstA t) := (pe_lst h.cut).imp fun _ _ _ q => ⟨_, fun _ _ z => ⟨z.1, z.2.of⟩, q⟩
end
end L2

/-! DATA: None, truths, ints, texts, and tuples of these (lists and dicts by their sort alone); what a value is in a heap; == of data, however deep. -/
namespace L2
open PySem PySem.Spec PyProof.Rows

inductive Dt where
  | non | bl (b : Bool) | int (i : Int) | str (x : Str) | tup (ds : List Dt) | oth (T : String)
mutual
inductive IsD (H : Hp) : V → Dt → Prop where
  | non : IsD H .non .non
  | bl (b : Bool) : IsD H (.bl b) (.bl b)
  | int (i : Int) : IsD H (.int i) (.int i)
  | str (x : Str) : IsD H (.str x) (.str x)
  | tup {a : Addr} {xs : List V} {ds : List Dt} (h : H a = some (.tup xs)) (r : IsDs H xs ds) : IsD H (.ref a) (.tup ds)
  | lst {a : Addr} {xs : List V} (h : H a = some (.lst xs)) : IsD H (.ref a) (.oth "list")
  | dct {a : Addr} {kvs : List (Key × V)} (h : H a = some (.dK kvs)) : IsD H (.ref a) (.oth "dict")
inductive IsDs (H : Hp) : List V → List Dt → Prop where
  | nil : IsDs H [] []
  | cons {x : V} {d : Dt} {xs : List V} {ds : List Dt} (h : IsD H x d) (r : IsDs H xs ds) : IsDs H (x :: xs) (d :: ds)
end
mutual
theorem IsD.same {H H' : Hp} (e : Same H H') : ∀ {v : V} {d : Dt}, IsD H v d → IsD H' v d
  | _, _, .non => .non
  | _, _, .bl b => .bl b
  | _, _, .int i => .int i
  | _, _, .str x => .str x
  | _, _, .tup h r => .tup (e _ _ h) (IsDs.same e r)
  | _, _, .lst h => .lst (e _ _ h)
  | _, _, .dct h => .dct (e _ _ h)
theorem IsDs.same {H H' : Hp} (e : Same H H') : ∀ {vs : List V} {ds : List Dt}, IsDs H vs ds → IsDs H' vs ds
  | _, _, .nil => .nil
  | _, _, .cons h r => .cons (IsD.same e h) (IsDs.same e r)
end
mutual
theorem IsD.inj {H : Hp} : ∀ {v : V} {d e : Dt}, IsD H v d → IsD H v e → d = e
  | _, _, _, .non, .non => rfl
  | _, _, _, .bl _, .bl _ => rfl
  | _, _, _, .int _, .int _ => rfl
  | _, _, _, .str _, .str _ => rfl
  | _, _, _, .tup h r, q => by
    cases q with
    | tup h' r' => rw [h] at h'; cases h'; rw [IsDs.inj r r']
    | lst h' => rw [h] at h'; cases h'
    | dct h' => rw [h] at h'; cases h'
  | _, _, _, .lst h, q => by
    cases q with
    | tup h' r' => rw [h] at h'; cases h'
    | lst h' => rfl
    | dct h' => rw [h] at h'; cases h'
  | _, _, _, .dct h, q => by
    cases q with
    | tup h' r' => rw [h] at h'; cases h'
    | lst h' => rw [h] at h'; cases h'
    | dct h' => rfl
theorem IsDs.inj {H : Hp} : ∀ {vs : List V} {ds es : List Dt}, IsDs H vs ds → IsDs H vs es → ds = es
  | _, _, _, .nil, .nil => rfl
  | _, _, _, .cons h r, .cons h' r' => by rw [IsD.inj h h', IsDs.inj r r']
end
section
variable {H : Hp}
theorem IsDs.length : ∀ {xs : List V} {ds : List Dt}, IsDs H xs ds → xs.length = ds.length
  | _, _, .nil => rfl
  | _, _, .cons _ r => by rw [List.length_cons, List.length_cons, IsDs.length r]
theorem IsDs.get : ∀ {xs : List V} {ds : List Dt} {i : Nat} {x : V}, IsDs H xs ds → xs[i]? = some x → ∃ d, ds[i]? = some d ∧ IsD H x d
  | _, _, _, _, .nil, e => by simp at e
  | _, _, 0, _, .cons h _, e => by simp at e; subst e; exact ⟨_, rfl, h⟩
  | _, _, i + 1, x, .cons _ r, e => by
    obtain ⟨d, h1, h2⟩ := IsDs.get (i := i) (x := x) r (by simpa using e)
    exact ⟨d, by simpa using h1, h2⟩
theorem IsDs.at : ∀ {xs : List V} {ds : List Dt} {i : Nat} {d : Dt}, IsDs H xs ds → ds[i]? = some d → ∃ x, xs[i]? = some x ∧ IsD H x d
  | _, _, _, _, .nil, e => by simp at e
  | _, _, 0, _, .cons h _, e => by simp at e; subst e; exact ⟨_, rfl, h⟩
  | _, _, i + 1, d, .cons _ r, e => by
    obtain ⟨x, h1, h2⟩ := IsDs.at (i := i) (d := d) r (by simpa using e)
    exact ⟨x, by simpa using h1, h2⟩
theorem IsDs.append : ∀ {xs ys : List V} {ds es : List Dt}, IsDs H xs ds → IsDs H ys es → IsDs H (xs ++ ys) (ds ++ es)
  | _, _, _, _, .nil, s => s
  | _, _, _, _, .cons h r, s => .cons h (IsDs.append r s)
theorem IsDs.ints : ∀ (ns : List Int), IsDs H (ns.map V.int) (ns.map Dt.int)
  | [] => .nil
  | n :: r => .cons (.int n) (IsDs.ints r)
theorem IsDs.ints_of : ∀ {xs : List V} {ns : List Int}, IsDs H xs (ns.map Dt.int) → xs = ns.map V.int
  | _, [], .nil => rfl
  | _, n :: r, .cons h q => by cases h; rw [IsDs.ints_of q]; rfl
theorem IsD.tup_of {v : V} {ds : List Dt} (h : IsD H v (.tup ds)) : ∃ a xs, v = .ref a ∧ H a = some (.tup xs) ∧ IsDs H xs ds := by
  cases h with
  | tup h r => exact ⟨_, _, rfl, h, r⟩
end
/-- its sort -/
def Dt.ty : Dt → String
  | .non => "NoneType" | .bl _ => "bool" | .int _ => "int" | .str _ => "str" | .tup _ => "tuple" | .oth T => T
theorem IsD.tyn {H : Hp} {v : V} {d : Dt} (h : IsD H v d) : tyn H v = some d.ty := by
  cases h with
  | tup h r => simp only [L2.tyn]; rw [h]; rfl
  | lst h => simp only [L2.tyn]; rw [h]; rfl
  | dct h => simp only [L2.tyn]; rw [h]; rfl
  | _ => rfl

/-! ### == of data -/
mutual
def eqD : Dt → Dt → Bool
  | .non, .non => true
  | .bl a, .bl b => a == b
  | .bl a, .int b => (if a then 1 else 0) == b
  | .int a, .bl b => a == (if b then 1 else 0)
  | .int a, .int b => a == b
  | .str a, .str b => a == b
  | .tup xs, .tup ys => eqDs xs ys
  | _, _ => false
def eqDs : List Dt → List Dt → Bool
  | [], [] => true
  | x :: xs, y :: ys => eqD x y && eqDs xs ys
  | _, _ => false
end
mutual
def pl : Dt → Bool
  | .oth _ => false
  | .tup ds => pls ds
  | _ => true
def pls : List Dt → Bool
  | [] => true
  | d :: ds => pl d && pls ds
end
mutual
def dep : Dt → Nat
  | .tup ds => deps ds + 1
  | _ => 0
def deps : List Dt → Nat
  | [] => 0
  | d :: ds => max (dep d) (deps ds)
end
mutual
theorem eqD_refl : ∀ d : Dt, pl d = true → eqD d d = true
  | .non, _ => by unfold eqD; rfl
  | .bl b, _ => by unfold eqD; exact beq_self_eq_true b
  | .int i, _ => by unfold eqD; exact beq_self_eq_true i
  | .str x, _ => by unfold eqD; exact beq_self_eq_true x
  | .tup ds, h => by
    unfold eqD
    unfold pl at h
    exact eqDs_refl ds h
  | .oth T, h => by unfold pl at h; cases h
theorem eqDs_refl : ∀ ds : List Dt, pls ds = true → eqDs ds ds = true
  | [], _ => by unfold eqDs; rfl
  | d :: ds, h => by
    unfold eqDs
    unfold pls at h
    rw [Bool.and_eq_true] at h
    rw [eqD_refl d h.1, eqDs_refl ds h.2]; rfl
end
section
variable {X : Cx} {pins : List (Addr × Obj)} {σ : St} {H : Hp} {s : Shared}
end
end L2

/-! TEXTS: join, split, int of a text, f-strings, a text's signs; comprehensions over lists, ranges and texts; tuple(list). -/
namespace L2
open PySem PySem.Spec PyProof.Rows
section
variable {X : Cx}
/-- tuple(list) -/
theorem call_tupA : CallR X (.type "tuple") (fun xs H Q => ∃ p ys, xs = [.ref p] ∧ SqL X.K H p ys ∧ New H (.tup ys) Q) :=
  call_tuple_of.imp fun _ _ _ ⟨p, ys, e, h, q⟩ => ⟨p, ys, e, .inl ⟨h, q.of⟩⟩
theorem sl_listA : SlR X (fun x lo hi H Q => ∃ a xs, x = .ref a ∧ SqL X.K H a xs ∧ New H (.lst (cutV xs lo hi)) Q) :=
  sl_list.imp fun _ _ _ _ _ ⟨a, xs, e, h, q⟩ => ⟨a, xs, e, h, q.of⟩

/-! ### f-strings of ints and texts -/
/-! ### the signs of a text -/
/-! ### isinstance(x, str) -/
end

/-! ### comprehensions: over a list, a range, a text -/
theorem comp_list {K : PySem.W.Frag} {a : Addr} {xs : List V} {js : List Nat} {tt : TT} {te : TE} {σ : St} {H : Hp} {Q : VK} (Pv : Nat → List V → Hp → Prop) (h0 : Pv 0 [] H) (hl : ∀ i ys H, i ≤ xs.length → Pv i ys H → SqL K H a xs ∧ ys.length ≤ i) (hz : xs.length ≤ sizeLine)
    (hs : ∀ i x ys H, xs[i]? = some x → Pv i ys H → tt (some x :: blockSt σ js) H fun b H4 => if b = true then te (some x :: blockSt σ js) H4 fun y H5 => Pv (i + 1) (ys ++ [y]) H5 else Pv (i + 1) ys H4)
    (hd : ∀ ys H, Pv xs.length ys H → ∀ D, H D = none → Q (.ref D) (upd H D (.lst ys))) : CompW js tt te σ Q (Itl K a) H := by
  refine ⟨fun i m ys H => i ≤ xs.length ∧ m = xs.length - i ∧ Pv i ys H, ⟨_, Nat.zero_le _, rfl, h0⟩, fun i m ys H2 ⟨hi, hm, hp⟩ => ?_⟩
  obtain ⟨hq, hy⟩ := hl i ys H2 hi hp
  by_cases e : i = xs.length
  · subst e
    exact .inl ⟨⟨xs, hq, Nat.le_refl _⟩, hd ys H2 hp⟩
  · have hlt : i < xs.length := Nat.lt_of_le_of_ne hi e
    refine .inr ⟨⟨xs, _, hq, List.getElem?_eq_getElem hlt⟩, by omega, Pv (i + 1), fun ys' H' hp' => ⟨xs.length - (i + 1), by omega, by omega, rfl, hp'⟩, fun x H3 hy3 => ?_⟩
    obtain ⟨e3, hx⟩ := hy3
    subst e3
    exact hs i x ys H3 (hx xs hq) hp
theorem comp_range {lo : Int} {n : Nat} {js : List Nat} {tt : TT} {te : TE} {σ : St} {H : Hp} {Q : VK} (Pv : Nat → List V → Hp → Prop) (h0 : Pv 0 [] H) (hl : ∀ i ys H, i ≤ n → Pv i ys H → ys.length ≤ i) (hz : n ≤ sizeLine)
    (hs : ∀ (i : Nat) ys H, i < n → Pv i ys H → tt (some (.int (lo + i)) :: blockSt σ js) H fun b H4 => if b = true then te (some (.int (lo + i)) :: blockSt σ js) H4 fun y H5 => Pv (i + 1) (ys ++ [y]) H5 else Pv (i + 1) ys H4)
    (hd : ∀ ys H, Pv n ys H → ∀ D, H D = none → Q (.ref D) (upd H D (.lst ys))) : CompW js tt te σ Q (Itr lo n) H := by
  refine ⟨fun i m ys H => i ≤ n ∧ m = n - i ∧ Pv i ys H, ⟨_, Nat.zero_le _, rfl, h0⟩, fun i m ys H2 ⟨hi, hm, hp⟩ => ?_⟩
  have hy := hl i ys H2 hi hp
  by_cases e : i = n
  · subst e
    exact .inl ⟨Nat.le_refl _, hd ys H2 hp⟩
  · have hlt : i < n := Nat.lt_of_le_of_ne hi e
    refine .inr ⟨hlt, by omega, Pv (i + 1), fun ys' H' hp' => ⟨n - (i + 1), by omega, by omega, rfl, hp'⟩, fun x H3 hy3 => ?_⟩
    obtain ⟨e3, hx⟩ := hy3
    subst e3 hx
    exact hs i ys H3 hlt hp
end L2

/-! enumerate(t) of a tuple, walked by a loop with two targets. -/
namespace L2
open PySem PySem.Spec PyProof.Rows
section
variable {prog : Program} {w : World} {A : Around} {E : Value → Shared → Prop} {s : Shared}
theorem enumT_step {z i1 a : Addr} {k : Nat} {xs : Array Value} {x was : Value} {Q : Value → Shared → Prop} (E0 : IsEnum s.heap z i1 k was) (J0 : s.heap.IsTupleIter i1 a k) (T0 : s.heap.IsTuple a xs) (hx : xs[k]? = some x) (hzi : z ≠ i1)
    (q : ∀ g, IsEnumOut g z i1 ((k : Int) + 1) x s.heap.objs.size → g.IsTupleIter i1 a (k + 1) → g.get? s.heap.objs.size = some { cls := .type "tuple", data := .seq #[.int k s.toks, x] } → g.objs.size = s.heap.objs.size + 1 →
      (∀ c o, c ≠ z → c ≠ i1 → s.heap.get? c = some o → g.get? c = some o) → Q (.ref s.heap.objs.size) { s with heap := g, toks := s.toks + 1 }) :
    wpAny (model prog w) A (Builtin.«enumerate.__next__» ⟨[.ref z], []⟩) (fun fin s' => ∃ v, fin = .done (.ret v) ∧ Q v s') E s := by
  obtain ⟨h0, gs, dr, tk, os⟩ := s
  show wpAny _ _ (field (.ref z) 2 >>= _) _ _ _
  refine wpAny_bind (wpAny_field E0 rfl (x := .ref i1) rfl ?_)
  refine wpAny_bind (nextT_item J0 T0 hx fun g1 J1 s1 => ?_)
  have s1 : Heap.SameBut i1 h0 g1 := s1
  have E1 : IsEnum g1 z i1 k was := (s1.2 z hzi).trans E0
  show wpAny _ _ (field (.ref z) 3 >>= _) _ _ ⟨g1, gs, dr, tk, os⟩
  refine wpAny_bind (wpAny_field E1 rfl (x := rawInt k) rfl ?_)
  show wpAny _ _ (field (.ref z) 4 >>= _) _ _ ⟨g1, gs, dr, tk, os⟩
  refine wpAny_bind (wpAny_field E1 rfl (x := .none) rfl ?_)
  show wpAny _ _ (mkInt k >>= _) _ _ ⟨g1, gs, dr, tk, os⟩
  refine wpAny_bind (wpAny_mkInt ?_)
  show wpAny _ _ (setField (.ref z) 3 (rawInt ((k : Int) + 1)) >>= _) _ _ ⟨g1, gs, dr, tk + 1, os⟩
  refine wpAny_bind (wpAny_setField_rec E1 (by simp) fun g2 E2 s2 => ?_)
  have s2 : Heap.SameBut z g1 g2 := s2
  have E2 : IsEnum g2 z i1 ((k : Int) + 1) was := E2
  show wpAny _ _ (setField (.ref z) 4 .none >>= _) _ _ ⟨g2, gs, dr, tk + 1, os⟩
  refine wpAny_bind (wpAny_setField_rec E2 (by simp) fun g3 E3 s3 => ?_)
  have s3 : Heap.SameBut z g2 g3 := s3
  have E3 : IsEnum g3 z i1 ((k : Int) + 1) was := E3
  show wpAny _ _ (newTuple [.int k tk, x] >>= _) _ _ ⟨g3, gs, dr, tk + 1, os⟩
  refine wpAny_bind (wpAny_newTuple ?_)
  have E4 : IsEnum (g3.push { cls := .type "tuple", data := .seq #[.int k tk, x] }) z i1 ((k : Int) + 1) was := Heap.get?_push_of_some _ E3
  have z3 : g3.objs.size = h0.objs.size := by rw [s3.1, s2.1, s1.1]
  have J4 : (g3.push { cls := .type "tuple", data := .seq #[.int k tk, x] }).IsTupleIter i1 a (k + 1) := by
    obtain ⟨o, e, r⟩ := (J1.extBut s2.extBut hzi.symm).extBut s3.extBut hzi.symm
    exact ⟨o, Heap.get?_push_of_some _ e, r⟩
  have T4 : (g3.push { cls := .type "tuple", data := .seq #[.int k tk, x] }).get? h0.objs.size = some { cls := .type "tuple", data := .seq #[.int k tk, x] } := by rw [← z3]; exact Heap.get?_push_size _ rfl
  have z4 : (g3.push { cls := .type "tuple", data := .seq #[.int k tk, x] }).objs.size = h0.objs.size + 1 := by rw [Heap.size_push, z3]
  have k4 : ∀ c o, c ≠ z → c ≠ i1 → h0.get? c = some o → (g3.push { cls := .type "tuple", data := .seq #[.int k tk, x] }).get? c = some o := fun c o c1 c2 e => Heap.get?_push_of_some _ (s3.extBut c o c1 (s2.extBut c o c1 (s1.extBut c o c2 e)))
  have zlt : z < h0.objs.size := Heap.lt_size E0
  generalize g3.push { cls := .type "tuple", data := .seq #[.int k tk, x] } = g4 at E4 J4 T4 z4 k4
  rw [z3]
  show wpAny _ _ (Builtin.SmallTypes.ownedTupleIsFree (.ref z) >>= _) _ _ ⟨g4, gs, dr, tk + 1, os⟩
  refine wpAny_bind ?_
  unfold Builtin.SmallTypes.ownedTupleIsFree
  refine wpAny_bind (wpAny_field E4 rfl (x := .none) rfl (wpAny_pure ?_))
  simp only [if_true]
  refine wpAny_bind (wpAny_rule ?_)
  refine wpAny_bind (wpAny_field E4 rfl (x := was) rfl ?_)
  refine wpAny_bind (wpAny_setField_rec E4 (by simp) fun g5 E5 s5 => ?_)
  have s5 : Heap.SameBut z g4 g5 := s5
  have E5 : IsEnum g5 z i1 ((k : Int) + 1) x := E5
  show wpAny _ _ (Builtin.SmallTypes.ownedTupleHandOut (.ref z) (.ref h0.objs.size) >>= _) _ _ ⟨g5, gs, dr, tk + 1, os⟩
  refine wpAny_bind ?_
  unfold Builtin.SmallTypes.ownedTupleHandOut
  refine wpAny_bind (wpAny_setField_rec E5 (by simp) fun g6 E6 s6 => ?_)
  have s6 : Heap.SameBut z g5 g6 := s6
  have E6 : IsEnumOut g6 z i1 ((k : Int) + 1) x h0.objs.size := E6
  refine wpAny_setField_rec E6 (by simp) fun g7 E7 s7 => ?_
  have s7 : Heap.SameBut z g6 g7 := s7
  have E7 : IsEnumOut g7 z i1 ((k : Int) + 1) x h0.objs.size := E7
  have up : ∀ c o, c ≠ z → g4.get? c = some o → g7.get? c = some o := fun c o c1 e => s7.extBut c o c1 (s6.extBut c o c1 (s5.extBut c o c1 e))
  refine wpAny_bind (wpAny_letGo (wpAny_pure ⟨_, rfl, q g7 E7 ?_ (up _ _ (Nat.ne_of_gt zlt) T4) (by rw [s7.1, s6.1, s5.1, z4]) fun c o c1 c2 e => up c o c1 (k4 c o c1 c2 e)⟩))
  obtain ⟨o, e, r⟩ := J4
  exact ⟨o, up _ o hzi.symm e, r⟩
theorem enumT_item {z i1 a : Addr} {k : Nat} {xs : Array Value} {x was : Value} {Q : Option Value → Shared → Prop} (E0 : IsEnum s.heap z i1 k was) (J0 : s.heap.IsTupleIter i1 a k) (T0 : s.heap.IsTuple a xs) (hx : xs[k]? = some x) (hzi : z ≠ i1)
    (q : ∀ g, IsEnumOut g z i1 ((k : Int) + 1) x s.heap.objs.size → g.IsTupleIter i1 a (k + 1) → g.get? s.heap.objs.size = some { cls := .type "tuple", data := .seq #[.int k s.toks, x] } → g.objs.size = s.heap.objs.size + 1 →
      (∀ c o, c ≠ z → c ≠ i1 → s.heap.get? c = some o → g.get? c = some o) → Q (some (.ref s.heap.objs.size)) { s with heap := g, toks := s.toks + 1 }) : wpAny (model prog w) A (pyNext (.ref z)) Q E s := by
  have ht : s.TypeIs (.ref z) "enumerate" := ⟨_, E0, rfl⟩
  unfold pyNext
  refine wpAny_bind (wpAny_attempt (wpAny_callSpecial?_slot (name := Str.ofString "__next__") ht F.slot_enumerate_next (wpAny_call_entry F.slot_enumerate_next ht F.entry_enumerate_next ?_ (F.args_enumerate_next_1 _))))
  exact enumT_step E0 J0 T0 hx hzi fun g e1 e2 e3 e4 e5 => wpAny_pure (q g e1 e2 e3 e4 e5)
theorem enumT_end {z i1 a : Addr} {k : Nat} {xs : Array Value} {was : Value} {Q : Option Value → Shared → Prop} (hh : A.handled = none) (E0 : IsEnum s.heap z i1 k was) (J0 : s.heap.IsTupleIter i1 a k) (T0 : s.heap.IsTuple a xs) (hx : xs[k]? = none)
    (q : ∀ g, Heap.ExtBut i1 s.heap g → Q none { s with heap := g }) : wpAny (model prog w) A (pyNext (.ref z)) Q E s := by
  have ht : s.TypeIs (.ref z) "enumerate" := ⟨_, E0, rfl⟩
  unfold pyNext
  refine wpAny_bind (wpAny_attempt (wpAny_callSpecial?_slot (name := Str.ofString "__next__") ht F.slot_enumerate_next (wpAny_call_entry F.slot_enumerate_next ht F.entry_enumerate_next ?_ (F.args_enumerate_next_1 _))))
  show wpAny _ _ (field (.ref z) 2 >>= _) _ _ _
  refine wpAny_bind (wpAny_field E0 rfl (x := .ref i1) rfl ?_)
  refine wpAny_bind (nextT_end hh J0 T0 hx fun g x kp hxx => ?_)
  obtain ⟨o, e1, e2⟩ := hxx
  refine wpAny_bind (wpAny_isInstance (T := "StopIteration") (b := true) ⟨o, e1, e2⟩ isSubtype_stop ?_)
  exact wpAny_pure (q _ kp)
end
section
open AutoSeq1 (wpAny_loadPart')
theorem enumT_new (a : Addr) (xs : Array Value) :
    Meets (Builtin.«enumerate.__new__» ⟨[.type "enumerate", .ref a], []⟩) (fun _ R s => s.heap.IsTuple a xs ∧
      R (.ok (.ret (.ref (s.heap.push { cls := .type "tuple_iterator", data := .fields #[.ref a, .int 0 0] }).objs.size)))
        { s with heap := (s.heap.push { cls := .type "tuple_iterator", data := .fields #[.ref a, .int 0 0] }).push { cls := .type "enumerate", data := .fields #[.none, .bool false, .ref s.heap.objs.size, rawInt 0, .none, .none] } }) :=
  .of_wp fun prog w A R s h => by
    obtain ⟨hp, g, d, tk, os⟩ := s
    obtain ⟨h1, h⟩ := h
    have subE := sub_enumerate
    have k1 : Heap.IsTuple (Shared.heap ⟨hp, g, d, tk, os⟩) a xs := h1
    wp_walk using wpAny_pyIter_tuple k1
    refine wpAny_stack_any fun st => wpAny_pure ?_
    split
    · rename_i c _ _ _ _ _
      cases (c == Value.type "enumerate")
      · wp_walk using wpAny_pyIter_tuple k1
        exact ⟨_, rfl, h⟩
      · wp_walk using wpAny_pyIter_tuple k1
        exact ⟨_, rfl, h⟩
    · wp_walk using wpAny_pyIter_tuple k1
      exact ⟨_, rfl, h⟩
theorem call_enumT {prog : Program} {w : World} {A : Around} {E : Value → Shared → Prop} {s : Shared} {a : Addr} {xs : Array Value} {Q : Value → Shared → Prop} (h1 : s.heap.IsTuple a xs)
    (q : ∀ g, IsEnum g (s.heap.objs.size + 1) s.heap.objs.size 0 .none → g.IsTupleIter s.heap.objs.size a 0 → g.objs.size = s.heap.objs.size + 2 → (∀ c o, s.heap.get? c = some o → g.get? c = some o) → Q (.ref (s.heap.objs.size + 1)) { s with heap := g }) :
    wpAny (model prog w) A (call (.type "enumerate") [.ref a]) Q E s := by
  refine callType_new F.called_enumerate (by decide) (F.typeCall_enumerate_1 _) (F.newCall_enumerate_1 _) (fun obj => F.args_object_init_2 obj _) F.entry_enumerate_new (enumT_new a xs) ⟨h1, ?_⟩
  have e1 : (s.heap.push { cls := .type "tuple_iterator", data := .fields #[.ref a, .int 0 0] }).objs.size = s.heap.objs.size + 1 := Heap.size_push ..
  have f2 := Heap.get?_push_size (s.heap.push { cls := .type "tuple_iterator", data := .fields #[.ref a, .int 0 0] }) (o := { cls := .type "enumerate", data := .fields #[.none, .bool false, .ref s.heap.objs.size, rawInt 0, .none, .none] }) rfl
  show _ ∧ _
  rw [e1] at f2 ⊢
  exact ⟨⟨_, f2, rfl⟩, q _ f2 ⟨_, Heap.get?_push_of_some _ (Heap.get?_push_size _ rfl), rfl, rfl⟩ (by rw [Heap.size_push, e1]) fun c o x => Heap.get?_push_of_some _ (Heap.get?_push_of_some _ x)⟩
end
/-! ### by the layer -/
def Ite (a : Addr) : It :=
  ⟨fun i H => ∃ xs x, H a = some (.tup xs) ∧ xs[i]? = some x,
   fun i H v H' => ∃ p x, H p = none ∧ v = .ref p ∧ H' = upd H p (.tup [.int (i : Nat), x]) ∧ ∀ xs, H a = some (.tup xs) → xs[i]? = some x,
   fun i H => ∃ xs, H a = some (.tup xs) ∧ xs.length ≤ i⟩
section
variable {X : Cx}
theorem turn_enum {P : Program} {w : World} {K : PySem.W.Frag} {es : List Expr} {k0} {pos : Pos} {z i1 : Addr} (a : Addr) (hzi : z ≠ i1) :
    Turn P w K (.Tuple es k0 pos) (Ite a) [z, i1] z (fun i h => (∃ was, IsEnum h z i1 i was) ∧ h.IsTupleIter i1 a i) where
  mem := by simp
  obj := fun i h st c hc => by
    obtain ⟨⟨was, e1⟩, ⟨o2, e2, _, d2⟩⟩ := st
    simp only [List.mem_cons, List.not_mem_nil, or_false] at hc
    rcases hc with rfl | rfl
    · exact ⟨_, e1, fun v z => by cases z⟩
    · exact ⟨_, e2, fun v z => by rw [d2] at z; cases z⟩
  keep := fun i h h' st k => by
    obtain ⟨⟨was, e1⟩, ⟨o2, e2, r2⟩⟩ := st
    exact ⟨⟨was, k z (by simp) _ e1⟩, ⟨o2, k i1 (by simp) _ e2, r2⟩⟩
  item := by
    intro X hP hw hK hc i pins s σ H E I hf st hg
    subst hP hw hK
    obtain ⟨xs, x, ha, hx⟩ := hg
    obtain ⟨⟨was, e1⟩, j1⟩ := st
    obtain ⟨its, rv, pt, _⟩ := I.tuple (SqT.of (K := X.K) ha)
    obtain ⟨u, hu, ru⟩ := rv.get hx
    have nz : ∀ e ∈ [z, i1], H e = none := fun e he => (hf e he).1
    have hT : H s.heap.objs.size = none := I.fresh
    refine enumT_item e1 j1 (show s.heap.IsTuple a its.toArray from pt) (x := u) (by simpa using hu) hzi fun g z1 m1 tp sz kk => ⟨_, rfl, ?_⟩
    refine wpAny_letOwnedTupleGo_enum z1 fun g2 z2 s2 => ?_
    have s2 : Heap.SameBut z g g2 := s2
    have k2 : ∀ e o, e ∉ [z, i1] → s.heap.get? e = some o → g2.get? e = some o := fun e o hn h => by
      simp only [List.mem_cons, List.not_mem_nil, or_false, not_or] at hn
      exact s2.extBut _ _ hn.1 (kk e o hn.1 hn.2 h)
    have zlt : z < s.heap.objs.size := Heap.lt_size e1
    have tp2 : g2.get? s.heap.objs.size = some { cls := .type "tuple", data := .seq #[.int i s.toks, u] } := s2.extBut _ _ (Nat.ne_of_gt zlt) tp
    have trk : ∀ e o, H e = some o → e ∉ [z, i1] := fun e o he hm => by rw [nz e hm] at he; cases he
    have I' := I.tok (s.toks + 1)
    have J : Inv X pins σ (upd H s.heap.objs.size (.tup [.int (i : Nat), x])) { s with heap := g2, toks := s.toks + 1 } := by
      refine I'.turnAll (ch := [z, i1]) (fun e he => hf e he) k2 (fun e o h => by rw [upd_ne (ne_of_none h hT)]; exact h) (fun e o h n => by rw [upd_ne (Nat.ne_of_lt (Heap.lt_size h))]; exact n) fun e o h => ?_
      by_cases q : e = s.heap.objs.size
      · subst q
        rw [upd_same] at h
        cases h
        exact ⟨by show 2 ≤ sizeLine; decide, [.int i s.toks, u], .cons ⟨_, rfl⟩ (.cons ru .nil), _, tp2, rfl, rfl, _, rfl⟩
      · rw [upd_ne q] at h
        refine (I.hok e o h).stay (fun c v hc' q' => k2 c v (by
          rcases hc' with z' | z'
          · rw [z']; exact trk e o h
          · exact trk c _ z') q') (fun c q' => by rw [upd_ne (ne_of_none q' hT)]; exact q') fun c xs q' => by rw [upd_ne (ne_of_none q' hT)]; exact q'
    refine ⟨.ref s.heap.objs.size, _, J, rfl, ⟨_, x, hT, rfl, rfl, fun xs' h' => by rw [ha] at h'; cases h'; exact hx⟩, ⟨⟨u, z2⟩, m1.extBut s2.extBut hzi.symm⟩, fun e he => ?_⟩
    obtain ⟨o4, q4, _⟩ := j1
    have hlt : e < s.heap.objs.size := by
      simp only [List.mem_cons, List.not_mem_nil, or_false] at he
      rcases he with rfl | rfl
      · exact Heap.lt_size e1
      · exact Heap.lt_size q4
    rw [upd_ne (Nat.ne_of_lt hlt)]
    exact nz e he
  done := by
    intro X hP hw hK hc i pins s σ H E I hf st hg
    subst hP hw hK
    obtain ⟨xs, ha, hx⟩ := hg
    obtain ⟨⟨was, e1⟩, j1⟩ := st
    obtain ⟨its, rv, pt, _⟩ := I.tuple (SqT.of (K := X.K) ha)
    obtain ⟨f0, f1, f2, f3, f4, f5⟩ := hf i1 (by simp)
    have hl := rv.length
    exact enumT_end (I.ok.hd hc) e1 j1 (show s.heap.IsTuple a its.toArray from pt) (by simp; omega) fun g kp => ⟨rfl, I.turned (t' := s.toks) (fun b o hb e => kp b o hb e) f0 f1 f3 f4 f5⟩
  self := fun _ _ _ _ _ st h => let ⟨⟨_, e1⟩, _⟩ := st; wpAny_pyIter_enum e1 h
def iEnum (ta : TA) : TI := fun σ H R => ta σ H fun vs H1 => ∃ a xs, vs = [.ref a] ∧ H1 a = some (.tup xs) ∧ R (Ite a) H1
theorem pi_enum {ea : Expr} {ta : TA} {p pos : Pos} {es : List Expr} {k0} {pt : Pos} (hg : Gl X "enumerate") (hm : X.mg "enumerate" = none) (ha : PA X [ea] ta) (hs : starEach [ea] X.env = [(false, eval ea X.env)] := by rfl) :
    PI X (.Tuple es k0 pt) (.Call (.Name "enumerate" p) [ea] [] pos) (iEnum ta) := by
  intro pins s σ H R I h
  refine Call_ (ld_blt I hg hm boot_enumerate (PyProof.Rows.callWith_type1 (thn (ha pos pins s σ H _ I h) fun us s1 ⟨vs, H1, I1, r1, q1⟩ => ?_) hs rfl))
  obtain ⟨a, xs, e, hA, q⟩ := q1
  subst e
  obtain ⟨u1, rfl, r2⟩ := vals1 r1
  cases (show u1 = Value.ref a from r2)
  obtain ⟨its, rv, pt', _⟩ := I1.tuple (SqT.of (K := X.K) hA)
  refine call_enumT (show s1.heap.IsTuple a its.toArray from pt') fun g z1 j1 sz kk => ?_
  refine wpAny_pyIter_enum z1 ⟨s1.heap.objs.size + 1, [s1.heap.objs.size + 1, s1.heap.objs.size], _, Ite a, H1, rfl, I1.kept (t' := s1.toks) kk, turn_enum a (by show @Ne Nat _ _; omega), ⟨⟨_, z1⟩, j1⟩, fun e he => ?_, q⟩
  have hge : s1.heap.objs.size ≤ e := by
    simp only [List.mem_cons, List.not_mem_nil, or_false] at he
    rcases he with rfl | rfl <;> (show @LE.le Nat _ _ _; omega)
  exact I1.fpOk hge (I1.hok.fresh hge)
end
end L2

/-! x = [.. for .. in ..] where the store takes the value out of the block. -/
namespace L2
open PySem PySem.Spec PyProof.Rows
theorem ps_setCC {X : Cx} {CW : St → VK → It → Hp → Prop} {iy : Nat} {y0 : Str} {py spos : Pos} {elt iter tg : Expr} {xs : List Str} {g : TG} {pos : Pos} {ifs : List Expr} {scope : Scope} {wi : TI} {te : TE} {tt : TT} {fr : List Str} {js : List Nat}
    (hN0 : X.N.Nodup) (hi0 : X.N[iy]? = some y0) (hx0 : Loc X.env.scope y0) (hc : X.calm = true) (hi : PI X tg iter wi)
    (hcell : ∀ y ∈ scope.names, y.2 ≠ .cell) (hkind : scope.kind = .function) (hnames : ∀ y ∈ scope.names, y.2 = .local → scope.names.lookup y.1 = some .local)
    (hfr : ∀ y ∈ scope.names, y.2 = .free → X.env.scope.names.lookup y.1 = some .cell) (hjs : js.map (fun j => X.N[j]?) = fr.map some) (hfv : ∀ y ∈ fr, scope.names.lookup y = some .free)
    (hg : ∀ cl C s' H' ex, PG (cxComp X scope cl C (xs ++ fr) s' H' ex) tg g)
    (hb : ∀ cl C s' H' ex, PE (cxComp X scope cl C (xs ++ fr) s' H' ex) elt te ∧ PTs (cxComp X scope cl C (xs ++ fr) s' H' ex) ifs tt)
    (hCW : ∀ σ Q J H1, CW σ Q J H1 → CompWT xs.length g js tt te σ Q J H1) (hs : ∀ z, foldedSetIterable iter X.env z = pure z := by intro _; rfl) (hsw : swapsWith (.ListComp elt [⟨tg, iter, ifs, 0⟩] scope pos) (some (.Name y0 py)) spos.line X.env = pure true := by rfl)
    (hf0 : X.fn y0 = true ∨ X.env.scope.names.lookup y0 = some .local := by first | exact .inl rfl | exact .inr rfl | assumption) :
    PS X (.Assign [.Name y0 py] (.ListComp elt [⟨tg, iter, ifs, 0⟩] scope pos) spos) (tAsg (fun σ H Q => wi σ H fun J H1 => CW σ Q J H1) (gName iy)) := by
  intro pins s σ H Dn I h
  rw [exec_Assign_Name_used _ _ _ _ hsw]
  refine wpAny_bind (wpAny_standAt (wpAny_bind ?_))
  show wpAny _ X.A (do let _ ← comprehension (.ListComp elt [⟨tg, iter, ifs, 0⟩] scope pos) scope X.env _ (newList []) false (eval iter X.env) (some (assign (.Name y0 py) X.env))) _ _ s
  refine wpAny_bind (wpAny_mono (comp_core (use := some (assign (.Name y0 py) X.env)) (R := fun _ s' => SP X pins Dn .next s') hc hi hcell hkind hnames hfr hjs hfv hg hb hCW I h (fun s4 H5 D C mC hnC I5 nC locC fsC pinX cC sC q => ?_) hs) (fun _ s' hq => wpAny_pure (wpAny_pure hq)) fun _ _ e => e)
  obtain ⟨oC, esC, epC, hoC, rC⟩ := id hnC
  have I6 : Inv X ((C, oC) :: pins) σ H5 s4 := I5.pins_of fun p hp => by
    rcases List.mem_cons.mp hp with rfl | hp
    · refine ⟨hoC, nC, locC, fsC, fun v z => ?_⟩
      rw [rC.1] at z
      cases z
    · exact I5.pin p (List.mem_append_right _ hp)
  have hPG0 : PG X (.Name y0 py) (gName iy) := pg_name hN0 hi0 hx0 hf0
  refine thn (hPG0 _ s4 σ _ (.ref D) (.ref D) (fun σ' H' => Dn.nx σ' H' ∧ H' C = none) I6 rfl ⟨q, nC⟩) fun _ s6 ⟨σ6, H6, I7, q7, n7⟩ => ?_
  have o7 := (I7.pin (C, oC) (List.mem_append_right _ (List.mem_cons_self ..))).1
  refine ⟨mC, ⟨oC, esC, epC, o7, rC⟩, fun h' hsb => ⟨σ6, H6, ?_, q7⟩⟩
  have I8 : Inv X pins σ6 H6 s6 := I7.pins_of fun p hp => I7.pin p (List.mem_append_right _ (List.mem_cons_of_mem _ hp))
  exact I8.turned (t' := s6.toks) (it := C) (fun b o hb' e => hsb.extBut b o hb' e) n7 locC (.inr sC) cC pinX
theorem ps_setC {X : Cx} {iy : Nat} {y0 : Str} {py spos : Pos} {elt iter : Expr} {x : Str} {px pos : Pos} {ifs : List Expr} {scope : Scope} {wi : TI} {te : TE} {tt : TT} {fr : List Str} {js : List Nat}
    (hN0 : X.N.Nodup) (hi0 : X.N[iy]? = some y0) (hx0 : Loc X.env.scope y0) (hc : X.calm = true) (hi : PI X (.Name x px) iter wi)
    (hcell : ∀ y ∈ scope.names, y.2 ≠ .cell) (hkind : scope.kind = .function) (hnames : ∀ y ∈ scope.names, y.2 = .local → scope.names.lookup y.1 = some .local) (hx : scope.names.lookup x = some .local)
    (hfr : ∀ y ∈ scope.names, y.2 = .free → X.env.scope.names.lookup y.1 = some .cell) (hnd : (x :: fr).Nodup) (hjs : js.map (fun j => X.N[j]?) = fr.map some) (hfv : ∀ y ∈ fr, scope.names.lookup y = some .free)
    (hb : ∀ cl C s' H' ex, PE (cxComp X scope cl C (x :: fr) s' H' ex) elt te ∧ PTs (cxComp X scope cl C (x :: fr) s' H' ex) ifs tt)
    (hs : ∀ z, foldedSetIterable iter X.env z = pure z := by intro _; rfl) (hsw : swapsWith (.ListComp elt [⟨.Name x px, iter, ifs, 0⟩] scope pos) (some (.Name y0 py)) spos.line X.env = pure true := by rfl)
    (hf0 : X.fn y0 = true ∨ X.env.scope.names.lookup y0 = some .local := by first | exact .inl rfl | exact .inr rfl | assumption) :
    PS X (.Assign [.Name y0 py] (.ListComp elt [⟨.Name x px, iter, ifs, 0⟩] scope pos) spos) (tAsg (tComp wi js tt te) (gName iy)) :=
  ps_setCC (xs := [x]) (g := gName 0) hN0 hi0 hx0 hc hi hcell hkind hnames hfr hjs hfv (fun _ _ _ _ _ => pg_name hnd rfl (.inl (lookup_relabel_local hx)) (.inr (lookup_relabel_local hx))) hb (fun _ _ _ _ h => compW_T h) hs hsw hf0
/-- an item that is not starred; the rest is not looked at -/
def notStar : Expr → Bool
  | .Starred _ _ => false
  | _ => true
theorem starEach_not {e : Expr} {es : List Expr} {env : Env} (h : notStar e = true) : starEach (e :: es) env = (false, eval e env) :: starEach es env := by
  cases e <;> first | rfl | cases h
theorem pa_k {X : Cx} {e : Expr} {es : List Expr} {te : TE} {t : TA} (ha : PE X e te) (hr : PA X es t) (h : notStar e = true := by rfl) : PA X (e :: es) (tCons te t) := pa_cons ha hr (starEach_not h)
end L2

/-! The judgements as structures: what stands in them is not looked into (lists of many constants). -/
namespace L2
open PySem PySem.Spec PyProof.Rows
structure PEs (X : Cx) (e : Expr) (t : TE) : Prop where
  h : PE X e t
structure PAs (X : Cx) (es : List Expr) (t : TA) : Prop where
  h : PA X es t
structure PSt (X : Cx) (st : Stmt) (t : TS) : Prop where
  h : PS X st t
structure PIs (X : Cx) (tg it : Expr) (t : TI) : Prop where
  h : PI X tg it t
theorem ps_cutK {X : Cx} {st : Stmt} {t : TS} (h : PS X st t) : PS X st (fun D σ H => ∃ N : St → Hp → Prop, (∀ σ' H', N σ' H' → D.nx σ' H') ∧ t { D with nx := N } σ H) := by
  intro pins s σ H D I ⟨N, hN, ht⟩
  refine thn (h pins s σ H { D with nx := N } I ht) fun f s' q => ?_
  cases f with
  | next => obtain ⟨σ', H', I', n'⟩ := q; exact ⟨σ', H', I', hN _ _ n'⟩
  | brk => exact q
  | cont => exact q
  | ret u => exact q
structure PSl (X : Cx) (sts : List Stmt) (t : TS) : Prop where
  h : PSs X sts t
section
variable {X : Cx} {a b e : Expr} {es : List Expr} {ta tb te : TE} {t : TA} {pos : Pos}
theorem k_int {i j} : PEs X (.Constant (.int i) j pos) (tC (.int i)) := ⟨pe_int⟩
theorem k_op {op : Operator} {r : R2} (ho : OpR X (binaryOp op) r) (ha : PEs X a ta) (hb : PEs X b tb) : PEs X (.BinOp a op b pos) (tOp r ta tb) := ⟨pe_op ho ha.h hb.h⟩
theorem k_ix {r : R2} (hr : IxR X r) (ha : PEs X a ta) (hb : PEs X b tb) (hs : PlainIx b) : PEs X (.Subscript a b pos) (tOp r ta tb) := ⟨pe_ix hr ha.h hb.h hs⟩
theorem a_nil : PAs X [] tNil := ⟨pa_nil⟩
theorem a_cons (ha : PEs X e te) (hr : PAs X es t) (h : notStar e = true := by rfl) : PAs X (e :: es) (tCons te t) := ⟨pa_k ha.h hr.h h⟩
theorem l_cons {st : Stmt} {sts : List Stmt} {t u : TS} (a : PSt X st t) (b : PSl X sts u) : PSl X (st :: sts) (tSeq t u) := ⟨pss_cons a.h b.h⟩
theorem l_one {st : Stmt} {t : TS} (a : PSt X st t) : PSl X [st] t := ⟨pss_one a.h⟩
end
end L2

/-! products of great numbers; tuples told unlike; lists of whole numbers told alike or unlike. -/
namespace L2
open PySem PySem.Spec PyProof.Rows
section
variable {X : Cx}
theorem ints_are : ∀ {ns : List Int} {us : List Value}, Vals (ns.map V.int) us → IntsAre us ns
  | [], _, .nil => .nil
  | _ :: _, _, .cons ⟨_, e⟩ r => by cases e; exact .cons _ _ (ints_are r)
theorem op_eqI (hu : X.A.units + 64 < cLine) : OpR X (compareOp .Eq) (fun x y H Q => ∃ (a b : Addr) (ns ms : List Int), x = .ref a ∧ y = .ref b ∧ SqL X.K H a (ns.map V.int) ∧ SqL X.K H b (ms.map V.int) ∧ Q (.bl (decide (ns = ms))) H) := by
  intro pins s σ H x y v u Q I rx ry h
  obtain ⟨a, b, ns, ms, rfl, rfl, ha, hb, q⟩ := h
  cases (show v = Value.ref a from rx)
  cases (show u = Value.ref b from ry)
  obtain ⟨its, rv, p, _⟩ := I.list ha
  obtain ⟨its2, rv2, p2, _⟩ := I.list hb
  exact PySem.W.ke_eq_ints p.isList p2.isList (ints_are rv) (ints_are rv2) hu (fin_bl I q rfl)
end
end L2

/-! comprehensions with any targets: over pairs that an iterator makes. -/
namespace L2
open PySem PySem.Spec PyProof.Rows
theorem pe_compT {X : Cx} {elt iter tg : Expr} {xs : List Str} {g : TG} {pos : Pos} {ifs : List Expr} {scope : Scope} {wi : TI} {te : TE} {tt : TT} {fr : List Str} {js : List Nat}
    (hc : X.calm = true) (hi : PI X tg iter wi)
    (hcell : ∀ y ∈ scope.names, y.2 ≠ .cell) (hkind : scope.kind = .function) (hnames : ∀ y ∈ scope.names, y.2 = .local → scope.names.lookup y.1 = some .local)
    (hfr : ∀ y ∈ scope.names, y.2 = .free → X.env.scope.names.lookup y.1 = some .cell) (hjs : js.map (fun j => X.N[j]?) = fr.map some) (hfv : ∀ y ∈ fr, scope.names.lookup y = some .free)
    (hg : ∀ cl C s' H' ex, PG (cxComp X scope cl C (xs ++ fr) s' H' ex) tg g)
    (hb : ∀ cl C s' H' ex, PE (cxComp X scope cl C (xs ++ fr) s' H' ex) elt te ∧ PTs (cxComp X scope cl C (xs ++ fr) s' H' ex) ifs tt)
    (hs : ∀ z, foldedSetIterable iter X.env z = pure z := by intro _; rfl) :
    PE X (.ListComp elt [⟨tg, iter, ifs, 0⟩] scope pos) (tCompT wi xs.length g js tt te) :=
  pe_compC hc hi hcell hkind hnames hfr hjs hfv hg hb (fun _ _ _ _ h => h) hs
abbrev gPair (K : PySem.W.Frag) : TG := gTup K 2 (gCons (gName 0) (gCons (gName 1) gNil))
theorem pg_two {X : Cx} {scope : Scope} {cl : List (Str × Addr)} {C : Addr} {s : Shared} {H : Hp} {ex : List Addr} {x y : Str} {fr : List Str} {k : Nat} {p1 p2 pt : Pos} (hc : X.calm = true) (hnd : (x :: y :: fr).Nodup) (hx : scope.names.lookup x = some .local) (hy : scope.names.lookup y = some .local) :
    PG (cxComp X scope cl C ([x, y] ++ fr) s H ex) (.Tuple [.Name x p1, .Name y p2] k pt) (gPair X.K) :=
  pg_tup hc (pgs_cons (pg_name (i := 0) hnd rfl (.inl (lookup_relabel_local hx)) (.inr (lookup_relabel_local hx))) (pgs_cons (pg_name (i := 1) hnd rfl (.inl (lookup_relabel_local hy)) (.inr (lookup_relabel_local hy))) pgs_nil))
/-- over enumerate of a tuple, with two names -/
theorem compT_enum {K : PySem.W.Frag} {a : Addr} {xs : List V} {js : List Nat} {tt : TT} {te : TE} {σ : St} {H : Hp} {Q : VK} (Pv : Nat → List V → Hp → Prop) (h0 : Pv 0 [] H) (hl : ∀ i ys H, i ≤ xs.length → Pv i ys H → H a = some (.tup xs) ∧ ys.length ≤ i) (hz : xs.length ≤ sizeLine)
    (hs : ∀ i x ys p H, xs[i]? = some x → Pv i ys H → H p = none → tt (some (.int (i : Nat)) :: some x :: blockSt σ js) (upd H p (.tup [.int (i : Nat), x])) fun b H4 => if b = true then te (some (.int (i : Nat)) :: some x :: blockSt σ js) H4 fun y H5 => Pv (i + 1) (ys ++ [y]) H5 else Pv (i + 1) ys H4)
    (hd : ∀ ys H, Pv xs.length ys H → ∀ D, H D = none → Q (.ref D) (upd H D (.lst ys))) : CompWT 2 (gPair K) js tt te σ Q (Ite a) H := by
  refine ⟨fun i m ys H => i ≤ xs.length ∧ m = xs.length - i ∧ Pv i ys H, ⟨_, Nat.zero_le _, rfl, h0⟩, fun i m ys H2 ⟨hi, hm, hp⟩ => ?_⟩
  obtain ⟨hq, hy⟩ := hl i ys H2 hi hp
  by_cases e : i = xs.length
  · subst e
    exact .inl ⟨⟨xs, hq, Nat.le_refl _⟩, hd ys H2 hp⟩
  · have hlt : i < xs.length := Nat.lt_of_le_of_ne hi e
    refine .inr ⟨⟨xs, _, hq, List.getElem?_eq_getElem hlt⟩, by omega, Pv (i + 1), fun ys' H' hp' => ⟨xs.length - (i + 1), by omega, by omega, rfl, hp'⟩, fun v H3 hy3 v0 hv0 => ?_⟩
    obtain ⟨p, x, hn, rfl, rfl, hx⟩ := hy3
    match v0, hv0 with
    | [v1, v2], _ => exact ⟨p, _, rfl, SqT.of upd_same, rfl, _, _, rfl, _, _, rfl, rfl, ⟨[some (.int (i : Nat)), some x], rfl, rfl⟩, hs i x ys p H2 (hx xs hq) hp hn⟩
end L2

/-! zip(t, u) of two tuples. -/
namespace L2
open PySem PySem.Spec PyProof.Rows
theorem istup_push {h : Heap} {b : Addr} {ys : Array Value} (k : h.IsTuple b ys) (o : Obj) : (h.push o).IsTuple b ys := by
  obtain ⟨ob, e, r⟩ := k
  exact ⟨ob, Heap.get?_push_of_some _ e, r⟩
theorem istup_at {h : Heap} {b : Addr} {ys : Array Value} (k : IsTup h b ys) : h.IsTuple b ys := k
section
variable {prog : Program} {w : World} {A : Around} {E : Value → Shared → Prop} {s : Shared}
theorem zipTT_item {z TI TO i1 i2 a b : Addr} {k1 k2 : Nat} {xs ys : Array Value} {x y c d : Value} {Q : Option Value → Shared → Prop} (D : ZAp z TI TO i1 i2 a b)
    (hz : IsZip s.heap z TI TO .none) (ti : IsPair s.heap TI (.ref i1) (.ref i2)) (to : IsPair s.heap TO c d)
    (j1 : s.heap.IsTupleIter i1 a k1) (j2 : s.heap.IsTupleIter i2 b k2) (la : s.heap.IsTuple a xs) (lb : s.heap.IsTuple b ys) (hx : xs[k1]? = some x) (hy : ys[k2]? = some y)
    (q : ∀ g, IsZip g z TI TO (rawInt s.heap.objs.size) → IsPair g TO x y → g.IsTupleIter i1 a (k1 + 1) → g.IsTupleIter i2 b (k2 + 1) → IsPair g s.heap.objs.size x y → g.objs.size = s.heap.objs.size + 1 →
      (∀ e o, e ≠ z → e ≠ TO → e ≠ i1 → e ≠ i2 → s.heap.get? e = some o → g.get? e = some o) → Q (some (.ref s.heap.objs.size)) { s with heap := g }) : wpAny (model prog w) A (pyNext (.ref z)) Q E s := by
  have hT : s.TypeIs (.ref z) "zip" := ⟨_, hz, rfl⟩
  unfold pyNext
  refine wpAny_bind (wpAny_attempt (wpAny_callSpecial?_slot (name := Str.ofString "__next__") hT F.slot_zip_next (wpAny_call_entry F.slot_zip_next hT F.entry_zip_next ?_ (F.args_zip_next_1 _))))
  show wpAny _ _ (field (.ref z) 2 >>= _) _ _ s
  refine wpAny_bind (wpAny_field hz rfl (x := .bool false) (by rfl) ?_)
  show wpAny _ _ (field (.ref z) 3 >>= _) _ _ s
  refine wpAny_bind (wpAny_field hz rfl (x := .ref TI) (by rfl) ?_)
  refine wpAny_bind (wpAny_seqItems ti rfl ?_)
  show wpAny _ _ (Builtin.SmallTypes.ownedTupleIsFree (.ref z) >>= _) _ _ s
  refine wpAny_bind ?_
  unfold Builtin.SmallTypes.ownedTupleIsFree
  refine wpAny_bind (wpAny_field hz rfl (x := .none) (by rfl) (wpAny_pure ?_))
  simp only [if_true]
  refine wpAny_bind (wpAny_rule ?_)
  refine wpAny_bind (wpAny_field hz rfl (x := .ref TO) (by rfl) ?_)
  refine wpAny_bind (wpAny_setField_rec hz (by simp) fun g1 z1 s1 => ?_)
  have z1 : IsZip g1 z TI TO .ellipsis := z1
  refine wpAny_bind ?_
  simp only [List.zipIdx_cons, List.zipIdx_nil, List.forIn_cons, List.forIn_nil]
  refine wpAny_bind (wpAny_bind (wpAny_onRaise ?_))
  show wpAny _ _ (Builtin.SmallTypes.nextOf (.ref i1) >>= _) _ _ _
  refine wpAny_bind (nextT_item (j1.extBut s1.extBut D.p3) (la.extBut s1.extBut D.a1) hx fun g2 n2 s2 => wpAny_pure ?_)
  have o2 : IsPair g2 TO c d := s2.extBut _ _ D.p8 (s1.extBut _ _ D.p2 to)
  refine wpAny_bind (wpAny_seqItems o2 rfl ?_)
  refine wpAny_bind (wpAny_updateSeq_pair o2 fun g3 o3 s3 => ?_)
  have o3 : IsPair g3 TO x d := o3
  refine wpAny_bind (wpAny_letGo (wpAny_pure ?_))
  refine wpAny_bind (wpAny_bind (wpAny_onRaise ?_))
  show wpAny _ _ (Builtin.SmallTypes.nextOf (.ref i2) >>= _) _ _ _
  refine wpAny_bind (nextT_item (((j2.extBut s1.extBut D.p4).extBut s2.extBut D.p10.symm).extBut s3.extBut D.p9.symm)
    (((lb.extBut s1.extBut D.b1).extBut s2.extBut D.b3).extBut s3.extBut D.b2) hy fun g4 n4 s4 => wpAny_pure ?_)
  have o4 : IsPair g4 TO x d := s4.extBut _ _ D.p9 o3
  refine wpAny_bind (wpAny_seqItems o4 rfl ?_)
  refine wpAny_bind (wpAny_updateSeq_pair o4 fun g5 o5 s5 => ?_)
  have o5 : IsPair g5 TO x y := o5
  refine wpAny_bind (wpAny_letGo (wpAny_pure (wpAny_pure ?_)))
  refine wpAny_bind (wpAny_seqItems o5 rfl ?_)
  refine wpAny_bind (wpAny_newTuple ?_)
  have sz : g5.objs.size = s.heap.objs.size := by rw [s5.1, s4.1, s3.1, s2.1, s1.1]
  have z5 : IsZip g5 z TI TO .ellipsis := s5.extBut _ _ D.p2.symm (s4.extBut _ _ D.p4.symm (s3.extBut _ _ D.p2.symm (s2.extBut _ _ D.p3.symm z1)))
  have k5 : ∀ e o, e ≠ z → e ≠ TO → e ≠ i1 → e ≠ i2 → s.heap.get? e = some o → g5.get? e = some o := fun e o c1 c2 c3 c4 h =>
    s5.extBut _ _ c2 (s4.extBut _ _ c4 (s3.extBut _ _ c2 (s2.extBut _ _ c3 (s1.extBut _ _ c1 h))))
  have m1 : g5.IsTupleIter i1 a (k1 + 1) := ((n2.extBut s3.extBut D.p8.symm).extBut s4.extBut D.p10).extBut s5.extBut D.p8.symm
  have m2 : g5.IsTupleIter i2 b (k2 + 1) := n4.extBut s5.extBut D.p9.symm
  have zlt : z < g5.objs.size := Heap.lt_size z5
  show wpAny _ _ (Builtin.SmallTypes.ownedTupleHandOut (.ref z) (.ref g5.objs.size) >>= _) _ _ _
  refine wpAny_bind ?_
  unfold Builtin.SmallTypes.ownedTupleHandOut
  have z6 : IsZip (g5.push { cls := .type "tuple", data := .seq #[x, y] }) z TI TO .ellipsis := Heap.get?_push_of_some _ z5
  refine wpAny_bind (wpAny_setField_rec z6 (by simp) fun g7 z7 s7 => ?_)
  have z7 : IsZip g7 z TI TO (rawInt g5.objs.size) := z7
  refine wpAny_setField_rec z7 (by simp) fun g8 z8 s8 => ?_
  have z8 : IsZip g8 z TI TO (rawInt g5.objs.size) := z8
  have up : ∀ e o, e ≠ z → g5.get? e = some o → g8.get? e = some o := fun e o c1 h => s8.extBut _ _ c1 (s7.extBut _ _ c1 (Heap.get?_push_of_some _ h))
  have t8 : IsPair g8 g5.objs.size x y := s8.extBut _ _ (Nat.ne_of_gt zlt) (s7.extBut _ _ (Nat.ne_of_gt zlt) (Heap.get?_push_size _ rfl))
  have sz8 : g8.objs.size = g5.objs.size + 1 := by rw [s8.1, s7.1, Heap.size_push]
  rw [sz] at z8 t8 sz8
  refine wpAny_pure ⟨_, rfl, ?_⟩
  refine wpAny_pure ?_
  show Q (some (.ref g5.objs.size)) _
  rw [sz]
  exact q g8 z8 (up _ _ D.p2 o5) (by obtain ⟨o, e, r⟩ := m1; exact ⟨o, up _ o D.p3 e, r⟩) (by obtain ⟨o, e, r⟩ := m2; exact ⟨o, up _ o D.p4 e, r⟩) t8 sz8 fun e o c1 c2 c3 c4 h => up e o c1 (k5 e o c1 c2 c3 c4 h)

theorem zipTT_end {z TI TO i1 i2 a b : Addr} {k1 k2 : Nat} {xs ys : Array Value} {c d : Value} {Q : Option Value → Shared → Prop} (hh : A.handled = none) (D : ZAp z TI TO i1 i2 a b)
    (hz : IsZip s.heap z TI TO .none) (ti : IsPair s.heap TI (.ref i1) (.ref i2)) (to : IsPair s.heap TO c d)
    (j1 : s.heap.IsTupleIter i1 a k1) (j2 : s.heap.IsTupleIter i2 b k2) (la : s.heap.IsTuple a xs) (lb : s.heap.IsTuple b ys) (hx : xs[k1]? = none)
    (q : ∀ g, (∀ e o, e ≠ z → e ≠ TO → e ≠ i1 → e ≠ i2 → s.heap.get? e = some o → g.get? e = some o) → Q none { s with heap := g }) : wpAny (model prog w) A (pyNext (.ref z)) Q E s := by
  have hT : s.TypeIs (.ref z) "zip" := ⟨_, hz, rfl⟩
  have fin : ∀ g x, (∀ e o, e ≠ z → e ≠ TO → e ≠ i1 → e ≠ i2 → s.heap.get? e = some o → g.get? e = some o) → (∃ o, g.get? x = some o ∧ o.cls = .type "StopIteration") →
      wpAny (model prog w) A (do if ← isInstance (.ref x) (.type "StopIteration") then pure none else throw (.ref x)) Q E { s with heap := g } := fun g x k ⟨o, ho, hc⟩ => by
    refine wpAny_bind (wpAny_isInstance (T := "StopIteration") (b := true) ⟨o, ho, hc⟩ isSubtype_stop ?_)
    exact wpAny_pure (q g k)
  unfold pyNext
  refine wpAny_bind (wpAny_attempt (wpAny_callSpecial?_slot (name := Str.ofString "__next__") hT F.slot_zip_next (wpAny_call_entry F.slot_zip_next hT F.entry_zip_next ?_ (F.args_zip_next_1 _))))
  show wpAny _ _ (field (.ref z) 2 >>= _) _ _ s
  refine wpAny_bind (wpAny_field hz rfl (x := .bool false) (by rfl) ?_)
  show wpAny _ _ (field (.ref z) 3 >>= _) _ _ s
  refine wpAny_bind (wpAny_field hz rfl (x := .ref TI) (by rfl) ?_)
  refine wpAny_bind (wpAny_seqItems ti rfl ?_)
  show wpAny _ _ (Builtin.SmallTypes.ownedTupleIsFree (.ref z) >>= _) _ _ s
  refine wpAny_bind ?_
  unfold Builtin.SmallTypes.ownedTupleIsFree
  refine wpAny_bind (wpAny_field hz rfl (x := .none) (by rfl) (wpAny_pure ?_))
  simp only [if_true]
  refine wpAny_bind (wpAny_rule ?_)
  refine wpAny_bind (wpAny_field hz rfl (x := .ref TO) (by rfl) ?_)
  refine wpAny_bind (wpAny_setField_rec hz (by simp) fun g1 z1 s1 => ?_)
  have z1 : IsZip g1 z TI TO .ellipsis := z1
  refine wpAny_bind ?_
  simp only [List.zipIdx_cons, List.zipIdx_nil, List.forIn_cons, List.forIn_nil]
  refine wpAny_bind (wpAny_bind (wpAny_onRaise ?_))
  show wpAny _ _ (Builtin.SmallTypes.nextOf (.ref i1) >>= _) _ _ _
  refine wpAny_bind (nextT_end hh (j1.extBut s1.extBut D.p3) (la.extBut s1.extBut D.a1) hx fun g2 x s2 hx2 => ?_)
  obtain ⟨oe, e1, e2⟩ := hx2
  have z2 : IsZip g2 z TI TO .ellipsis := s2 _ _ D.p3.symm z1
  have xz : x ≠ z := fun r => by subst r; rw [z2] at e1; cases e1; simp at e2
  exact wpAny_setField_rec z2 (by simp) fun g3 _ s3 => fin g3 x (fun e o c1 _ c3 _ h => s3.extBut _ _ c1 (s2 _ _ c3 (s1.extBut _ _ c1 h))) ⟨oe, s3.extBut _ _ xz e1, e2⟩
theorem zipTT_end2 {z TI TO i1 i2 a b : Addr} {k1 k2 : Nat} {xs ys : Array Value} {x0 c d : Value} {Q : Option Value → Shared → Prop} (hh : A.handled = none) (D : ZAp z TI TO i1 i2 a b)
    (hz : IsZip s.heap z TI TO .none) (ti : IsPair s.heap TI (.ref i1) (.ref i2)) (to : IsPair s.heap TO c d)
    (j1 : s.heap.IsTupleIter i1 a k1) (j2 : s.heap.IsTupleIter i2 b k2) (la : s.heap.IsTuple a xs) (lb : s.heap.IsTuple b ys) (hx : xs[k1]? = some x0) (hy : ys[k2]? = none)
    (q : ∀ g, (∀ e o, e ≠ z → e ≠ TO → e ≠ i1 → e ≠ i2 → s.heap.get? e = some o → g.get? e = some o) → Q none { s with heap := g }) : wpAny (model prog w) A (pyNext (.ref z)) Q E s := by
  have hT : s.TypeIs (.ref z) "zip" := ⟨_, hz, rfl⟩
  have fin : ∀ g x, (∀ e o, e ≠ z → e ≠ TO → e ≠ i1 → e ≠ i2 → s.heap.get? e = some o → g.get? e = some o) → (∃ o, g.get? x = some o ∧ o.cls = .type "StopIteration") →
      wpAny (model prog w) A (do if ← isInstance (.ref x) (.type "StopIteration") then pure none else throw (.ref x)) Q E { s with heap := g } := fun g x k ⟨o, ho, hc⟩ => by
    refine wpAny_bind (wpAny_isInstance (T := "StopIteration") (b := true) ⟨o, ho, hc⟩ isSubtype_stop ?_)
    exact wpAny_pure (q g k)
  unfold pyNext
  refine wpAny_bind (wpAny_attempt (wpAny_callSpecial?_slot (name := Str.ofString "__next__") hT F.slot_zip_next (wpAny_call_entry F.slot_zip_next hT F.entry_zip_next ?_ (F.args_zip_next_1 _))))
  show wpAny _ _ (field (.ref z) 2 >>= _) _ _ s
  refine wpAny_bind (wpAny_field hz rfl (x := .bool false) (by rfl) ?_)
  show wpAny _ _ (field (.ref z) 3 >>= _) _ _ s
  refine wpAny_bind (wpAny_field hz rfl (x := .ref TI) (by rfl) ?_)
  refine wpAny_bind (wpAny_seqItems ti rfl ?_)
  show wpAny _ _ (Builtin.SmallTypes.ownedTupleIsFree (.ref z) >>= _) _ _ s
  refine wpAny_bind ?_
  unfold Builtin.SmallTypes.ownedTupleIsFree
  refine wpAny_bind (wpAny_field hz rfl (x := .none) (by rfl) (wpAny_pure ?_))
  simp only [if_true]
  refine wpAny_bind (wpAny_rule ?_)
  refine wpAny_bind (wpAny_field hz rfl (x := .ref TO) (by rfl) ?_)
  refine wpAny_bind (wpAny_setField_rec hz (by simp) fun g1 z1 s1 => ?_)
  have z1 : IsZip g1 z TI TO .ellipsis := z1
  refine wpAny_bind ?_
  simp only [List.zipIdx_cons, List.zipIdx_nil, List.forIn_cons, List.forIn_nil]
  refine wpAny_bind (wpAny_bind (wpAny_onRaise ?_))
  show wpAny _ _ (Builtin.SmallTypes.nextOf (.ref i1) >>= _) _ _ _
  refine wpAny_bind (nextT_item (j1.extBut s1.extBut D.p3) (la.extBut s1.extBut D.a1) hx fun g2 n2 s2 => wpAny_pure ?_)
  have o2 : IsPair g2 TO c d := s2.extBut _ _ D.p8 (s1.extBut _ _ D.p2 to)
  refine wpAny_bind (wpAny_seqItems o2 rfl ?_)
  refine wpAny_bind (wpAny_updateSeq_pair o2 fun g3 o3 s3 => ?_)
  refine wpAny_bind (wpAny_letGo (wpAny_pure ?_))
  refine wpAny_bind (wpAny_bind (wpAny_onRaise ?_))
  show wpAny _ _ (Builtin.SmallTypes.nextOf (.ref i2) >>= _) _ _ _
  refine wpAny_bind (nextT_end hh (((j2.extBut s1.extBut D.p4).extBut s2.extBut D.p10.symm).extBut s3.extBut D.p9.symm)
    (((lb.extBut s1.extBut D.b1).extBut s2.extBut D.b3).extBut s3.extBut D.b2) hy fun g4 x s4 hx4 => ?_)
  obtain ⟨oe, e1, e2⟩ := hx4
  have z4 : IsZip g4 z TI TO .ellipsis := s4 _ _ D.p4.symm (s3.extBut _ _ D.p2.symm (s2.extBut _ _ D.p3.symm z1))
  have xz : x ≠ z := fun r => by subst r; rw [z4] at e1; cases e1; simp at e2
  exact wpAny_setField_rec z4 (by simp) fun g5 _ s5 => fin g5 x (fun e o c1 c2 c3 c4 h => s5.extBut _ _ c1 (s4 _ _ c4 (s3.extBut _ _ c2 (s2.extBut _ _ c3 (s1.extBut _ _ c1 h))))) ⟨oe, s5.extBut _ _ xz e1, e2⟩
end
abbrev yT1 (h : Heap) (a : Addr) : Heap := h.push { cls := .type "tuple_iterator", data := .fields #[.ref a, .int 0 0] }
abbrev yT2 (h : Heap) (a b : Addr) : Heap := (yT1 h a).push { cls := .type "tuple_iterator", data := .fields #[.ref b, .int 0 0] }
abbrev yT3 (h : Heap) (a b : Addr) : Heap := (yT2 h a b).push { cls := .type "tuple", data := .seq #[.ref h.objs.size, .ref (yT1 h a).objs.size] }
abbrev yT4 (h : Heap) (a b : Addr) : Heap := (yT3 h a b).push { cls := .type "tuple", data := .seq #[.none, .none] }
abbrev yT5 (h : Heap) (a b : Addr) : Heap := (yT4 h a b).push { cls := .type "zip", data := .fields #[.none, .bool false, .bool false, .ref (yT2 h a b).objs.size, .ref (yT3 h a b).objs.size] }
theorem zipTT_new (a b : Addr) (xs ys : Array Value) :
    Meets (Builtin.«zip.__new__» ⟨[.type "zip", .ref a, .ref b], []⟩) (fun _ R s => s.heap.IsTuple a xs ∧ s.heap.IsTuple b ys ∧ R (.ok (.ret (.ref (yT4 s.heap a b).objs.size))) { s with heap := yT5 s.heap a b }) :=
  .of_wp fun prog w A R s h => by
    obtain ⟨hp, g, d, tk, os⟩ := s
    obtain ⟨h1, h2, h⟩ := h
    have subZ := sub_zip
    have k1 : Heap.IsTuple (Shared.heap ⟨hp, g, d, tk, os⟩) a xs := h1
    have k2 : Heap.IsTuple (Shared.heap ⟨hp.push { cls := .type "tuple_iterator", data := .fields #[.ref a, .int 0 0] }, g, d, tk, os⟩) b ys := istup_push h2 _
    wp_walk using wpAny_pyIter_tuple k1, wpAny_pyIter_tuple k2
    exact ⟨_, rfl, h⟩
theorem call_zipTT {prog : Program} {w : World} {A : Around} {E : Value → Shared → Prop} {s : Shared} {a b : Addr} {xs ys : Array Value} {Q : Value → Shared → Prop} (h1 : s.heap.IsTuple a xs) (h2 : s.heap.IsTuple b ys)
    (q : ∀ g, IsZip g (s.heap.objs.size + 4) (s.heap.objs.size + 2) (s.heap.objs.size + 3) .none → IsPair g (s.heap.objs.size + 2) (.ref s.heap.objs.size) (.ref (s.heap.objs.size + 1)) →
      IsPair g (s.heap.objs.size + 3) .none .none → g.IsTupleIter s.heap.objs.size a 0 → g.IsTupleIter (s.heap.objs.size + 1) b 0 → g.objs.size = s.heap.objs.size + 5 →
      (∀ c o, s.heap.get? c = some o → g.get? c = some o) → Q (.ref (s.heap.objs.size + 4)) { s with heap := g }) : wpAny (model prog w) A (call (.type "zip") [.ref a, .ref b]) Q E s := by
  refine callType_new F.called_zip (by decide) (F.typeCall_zip_2 _ _) (F.newCall_zip_2 _ _) (fun obj => F.args_object_init_3 obj _ _) F.entry_zip_new (zipTT_new a b xs ys) ⟨h1, h2, ?_⟩
  have e1 : (yT1 s.heap a).objs.size = s.heap.objs.size + 1 := Heap.size_push ..
  have e2 : (yT2 s.heap a b).objs.size = s.heap.objs.size + 2 := by rw [Heap.size_push, e1]
  have e3 : (yT3 s.heap a b).objs.size = s.heap.objs.size + 3 := by rw [Heap.size_push, e2]
  have e4 : (yT4 s.heap a b).objs.size = s.heap.objs.size + 4 := by rw [Heap.size_push, e3]
  have e5 : (yT5 s.heap a b).objs.size = s.heap.objs.size + 5 := by rw [Heap.size_push, e4]
  have f5 : (yT5 s.heap a b).get? (yT4 s.heap a b).objs.size = some _ := Heap.get?_push_size _ rfl
  have f4 : (yT5 s.heap a b).get? (yT3 s.heap a b).objs.size = some _ := Heap.get?_push_of_some _ (Heap.get?_push_size _ rfl)
  have f3 : (yT5 s.heap a b).get? (yT2 s.heap a b).objs.size = some _ := Heap.get?_push_of_some _ (Heap.get?_push_of_some _ (Heap.get?_push_size _ rfl))
  have f2 : (yT5 s.heap a b).get? (yT1 s.heap a).objs.size = some _ := Heap.get?_push_of_some _ (Heap.get?_push_of_some _ (Heap.get?_push_of_some _ (Heap.get?_push_size _ rfl)))
  have f1 : (yT5 s.heap a b).get? s.heap.objs.size = some _ := Heap.get?_push_of_some _ (Heap.get?_push_of_some _ (Heap.get?_push_of_some _ (Heap.get?_push_of_some _ (Heap.get?_push_size _ rfl))))
  show _ ∧ _
  rw [e2, e3, e4] at f5
  rw [e1, e2] at f3
  rw [e3] at f4
  rw [e1] at f2
  rw [e4]
  exact ⟨⟨_, f5, rfl⟩, q _ f5 f3 f4 ⟨_, f1, rfl, rfl⟩ ⟨_, f2, rfl, rfl⟩ e5 fun c o x => Heap.get?_push_of_some _ (Heap.get?_push_of_some _ (Heap.get?_push_of_some _ (Heap.get?_push_of_some _ (Heap.get?_push_of_some _ x))))⟩

section
variable {X : Cx}
def Ity (a b : Addr) : It :=
  ⟨fun i H => ∃ xs ys x y, H a = some (.tup xs) ∧ H b = some (.tup ys) ∧ xs[i]? = some x ∧ ys[i]? = some y,
   fun i H v H' => ∃ p x y, H p = none ∧ v = .ref p ∧ H' = upd H p (.tup [x, y]) ∧ (∀ xs, H a = some (.tup xs) → xs[i]? = some x) ∧ ∀ ys, H b = some (.tup ys) → ys[i]? = some y,
   fun i H => ∃ xs ys, H a = some (.tup xs) ∧ H b = some (.tup ys) ∧ (xs.length ≤ i ∨ ∃ x, xs[i]? = some x ∧ ys.length ≤ i)⟩
theorem turn_zipT {P : Program} {w : World} {K : PySem.W.Frag} {es : List Expr} {k0} {pos : Pos} {z TI TO i1 i2 : Addr} (a b : Addr) (D : Z5 z TI TO i1 i2) :
    Turn P w K (.Tuple es k0 pos) (Ity a b) [z, TI, TO, i1, i2] z (fun i h => IsZip h z TI TO .none ∧ IsPair h TI (.ref i1) (.ref i2) ∧ (∃ c d, IsPair h TO c d) ∧ h.IsTupleIter i1 a i ∧ h.IsTupleIter i2 b i) where
  mem := by simp
  obj := fun i h st c hc => by
    obtain ⟨e1, e2, ⟨_, _, e3⟩, ⟨o4, e4, _, d4⟩, ⟨o5, e5, _, d5⟩⟩ := st
    simp only [List.mem_cons, List.not_mem_nil, or_false] at hc
    rcases hc with rfl | rfl | rfl | rfl | rfl
    · exact ⟨_, e1, fun v z => by cases z⟩
    · exact ⟨_, e2, fun v z => by cases z⟩
    · exact ⟨_, e3, fun v z => by cases z⟩
    · exact ⟨_, e4, fun v z => by rw [d4] at z; cases z⟩
    · exact ⟨_, e5, fun v z => by rw [d5] at z; cases z⟩
  keep := fun i h h' st k => by
    obtain ⟨e1, e2, ⟨c, d, e3⟩, ⟨o4, e4, r4⟩, ⟨o5, e5, r5⟩⟩ := st
    exact ⟨k z (by simp) _ e1, k TI (by simp) _ e2, ⟨c, d, k TO (by simp) _ e3⟩, ⟨o4, k i1 (by simp) _ e4, r4⟩, ⟨o5, k i2 (by simp) _ e5, r5⟩⟩
  item := by
    intro X hP hw hK hc i pins s σ H E I hf st hg
    subst hP hw hK
    obtain ⟨xs, ys, x, y, ha, hb, hx, hy⟩ := hg
    obtain ⟨e1, e2, ⟨c, d, e3⟩, j1, j2⟩ := st
    obtain ⟨its, rv, pt, _⟩ := I.tuple (SqT.of (K := X.K) ha)
    obtain ⟨its2, rv2, eL, _⟩ := I.tuple (SqT.of (K := X.K) hb)
    obtain ⟨u, hu, ru⟩ := rv.get hx
    obtain ⟨u2, hu2, ru2⟩ := rv2.get hy
    have nz : ∀ e ∈ [z, TI, TO, i1, i2], H e = none := fun e he => (hf e he).1
    have Z : ZAp z TI TO i1 i2 a b := ⟨D.p1, D.p2, D.p3, D.p4, D.p5, D.p6, D.p7, D.p8, D.p9, D.p10, ne_of_none ha (nz z (by simp)), ne_of_none ha (nz TO (by simp)), ne_of_none ha (nz i1 (by simp)), ne_of_none ha (nz i2 (by simp)),
      ne_of_none hb (nz z (by simp)), ne_of_none hb (nz TO (by simp)), ne_of_none hb (nz i1 (by simp)), ne_of_none hb (nz i2 (by simp))⟩
    have hT : H s.heap.objs.size = none := I.fresh
    refine zipTT_item Z e1 e2 e3 j1 j2 (show s.heap.IsTuple a its.toArray from pt) (istup_at eL) (x := u) (y := u2) (by simpa using hu) (by simpa using hu2) fun g z1 to1 m1 m2 tp sz kk => ⟨_, rfl, ?_⟩
    refine wpAny_letOwnedTupleGo_zip z1 fun g2 z2 s2 => ?_
    have s2 : Heap.SameBut z g g2 := s2
    have k2 : ∀ e o, e ∉ [z, TO, i1, i2] → s.heap.get? e = some o → g2.get? e = some o := fun e o hn h => by
      simp only [List.mem_cons, List.not_mem_nil, or_false, not_or] at hn
      exact s2.extBut _ _ hn.1 (kk e o hn.1 hn.2.1 hn.2.2.1 hn.2.2.2 h)
    have zlt : z < s.heap.objs.size := Heap.lt_size e1
    have tp2 : IsPair g2 s.heap.objs.size u u2 := s2.extBut _ _ (Nat.ne_of_gt zlt) tp
    have sub : ∀ e ∈ [z, TO, i1, i2], e ∈ [z, TI, TO, i1, i2] := fun e he => by
      simp only [List.mem_cons, List.not_mem_nil, or_false] at he ⊢
      rcases he with rfl | rfl | rfl | rfl <;> simp
    have trk : ∀ e o, H e = some o → e ∉ [z, TO, i1, i2] := fun e o he hm => by rw [nz e (sub e hm)] at he; cases he
    have J : Inv X pins σ (upd H s.heap.objs.size (.tup [x, y])) { s with heap := g2 } := by
      refine I.turnAll (ch := [z, TO, i1, i2]) (fun e he => hf e (sub e he)) k2 (fun e o h => by rw [upd_ne (ne_of_none h hT)]; exact h) (fun e o h n => by rw [upd_ne (Nat.ne_of_lt (Heap.lt_size h))]; exact n) fun e o h => ?_
      by_cases q : e = s.heap.objs.size
      · subst q
        rw [upd_same] at h
        cases h
        exact ⟨by show 2 ≤ sizeLine; decide, [u, u2], .cons ru (.cons ru2 .nil), _, tp2, rfl, rfl, _, rfl⟩
      · rw [upd_ne q] at h
        refine (I.hok e o h).stay (fun c v hc' q' => k2 c v (by
          rcases hc' with z' | z'
          · rw [z']; exact trk e o h
          · exact trk c _ z') q') (fun c q' => by rw [upd_ne (ne_of_none q' hT)]; exact q') fun c xs q' => by rw [upd_ne (ne_of_none q' hT)]; exact q'
    refine ⟨.ref s.heap.objs.size, _, J, rfl, ⟨_, x, y, hT, rfl, rfl, fun xs' h' => by rw [ha] at h'; cases h'; exact hx, fun ys' h' => by rw [hb] at h'; cases h'; exact hy⟩, ⟨z2, ?_, ⟨u, u2, s2.extBut _ _ D.p2 to1⟩, ?_, ?_⟩, fun e he => ?_⟩
    · exact k2 _ _ (by simp [D.p1, D.p5, D.p6, D.p7]) e2
    · exact m1.extBut s2.extBut D.p3
    · exact m2.extBut s2.extBut D.p4
    · obtain ⟨o4, q4, _⟩ := j1
      obtain ⟨o5, q5, _⟩ := j2
      have hlt : e < s.heap.objs.size := by
        simp only [List.mem_cons, List.not_mem_nil, or_false] at he
        rcases he with rfl | rfl | rfl | rfl | rfl
        · exact Heap.lt_size e1
        · exact Heap.lt_size e2
        · exact Heap.lt_size e3
        · exact Heap.lt_size q4
        · exact Heap.lt_size q5
      rw [upd_ne (Nat.ne_of_lt hlt)]
      exact nz e he
  done := by
    intro X hP hw hK hc i pins s σ H E I hf st hg
    subst hP hw hK
    obtain ⟨xs, ys, ha, hb, hx⟩ := hg
    obtain ⟨e1, e2, ⟨c, d, e3⟩, j1, j2⟩ := st
    obtain ⟨its, rv, pt, _⟩ := I.tuple (SqT.of (K := X.K) ha)
    obtain ⟨its2, rv2, eL, _⟩ := I.tuple (SqT.of (K := X.K) hb)
    have nz : ∀ e ∈ [z, TI, TO, i1, i2], H e = none := fun e he => (hf e he).1
    have Z : ZAp z TI TO i1 i2 a b := ⟨D.p1, D.p2, D.p3, D.p4, D.p5, D.p6, D.p7, D.p8, D.p9, D.p10, ne_of_none ha (nz z (by simp)), ne_of_none ha (nz TO (by simp)), ne_of_none ha (nz i1 (by simp)), ne_of_none ha (nz i2 (by simp)),
      ne_of_none hb (nz z (by simp)), ne_of_none hb (nz TO (by simp)), ne_of_none hb (nz i1 (by simp)), ne_of_none hb (nz i2 (by simp))⟩
    have hl := rv.length
    have hl2 := rv2.length
    suffices key : ∀ g : Heap, (∀ e o, e ≠ z → e ≠ TO → e ≠ i1 → e ≠ i2 → s.heap.get? e = some o → g.get? e = some o) → Inv X pins σ H { s with heap := g } by
      rcases hx with hx | ⟨x0, hx0, hx⟩
      · exact zipTT_end (I.ok.hd hc) Z e1 e2 e3 j1 j2 (istup_at pt) (istup_at eL) (by simp; omega) fun g kk => ⟨rfl, key g kk⟩
      · obtain ⟨u, hu, _⟩ := rv.get hx0
        exact zipTT_end2 (I.ok.hd hc) Z e1 e2 e3 j1 j2 (istup_at pt) (istup_at eL) (x0 := u) (by simpa using hu) (by simp; omega) fun g kk => ⟨rfl, key g kk⟩
    intro g kk
    have sub : ∀ e ∈ [z, TO, i1, i2], e ∈ [z, TI, TO, i1, i2] := fun e he => by
      simp only [List.mem_cons, List.not_mem_nil, or_false] at he ⊢
      rcases he with rfl | rfl | rfl | rfl <;> simp
    have k2 : ∀ e o, e ∉ [z, TO, i1, i2] → s.heap.get? e = some o → g.get? e = some o := fun e o hn h => by
      simp only [List.mem_cons, List.not_mem_nil, or_false, not_or] at hn
      exact kk e o hn.1 hn.2.1 hn.2.2.1 hn.2.2.2 h
    have trk : ∀ e o, H e = some o → e ∉ [z, TO, i1, i2] := fun e o he hm => by rw [nz e (sub e hm)] at he; cases he
    refine I.turnAll (ch := [z, TO, i1, i2]) (fun e he => hf e (sub e he)) k2 (fun _ _ h => h) (fun _ _ _ n => n) fun e o h => ?_
    exact (I.hok e o h).stay (fun c v hc' q' => k2 c v (by
      rcases hc' with z' | z'
      · rw [z']; exact trk e o h
      · exact trk c _ z') q') (fun _ q' => q') fun _ _ q' => q'
  self := fun _ _ _ _ _ st h => wpAny_pyIter_zip st.1 h
def iZipT (ta : TA) : TI := fun σ H R => ta σ H fun vs H1 => ∃ a b xs ys, vs = [.ref a, .ref b] ∧ H1 a = some (.tup xs) ∧ H1 b = some (.tup ys) ∧ R (Ity a b) H1
theorem pi_zipT {ea eb : Expr} {ta : TA} {p pos : Pos} {es : List Expr} {k0} {pt : Pos} (hg : Gl X "zip") (hm : X.mg "zip" = none) (ha : PA X [ea, eb] ta) (hs : starEach [ea, eb] X.env = [(false, eval ea X.env), (false, eval eb X.env)] := by rfl) (hs2 : starEach [eb] X.env = [(false, eval eb X.env)] := by rfl) :
    PI X (.Tuple es k0 pt) (.Call (.Name "zip" p) [ea, eb] [] pos) (iZipT ta) := by
  intro pins s σ H R I h
  refine Call_ (ld_blt I hg hm boot_zip (PyProof.Rows.callWith_type1 (thn (ha pos pins s σ H _ I h) fun us s1 ⟨vs, H1, I1, r1, q1⟩ => ?_) (by rw [hs, hs2]) (by rw [hs2]; rfl)))
  obtain ⟨a, b, xs, ys, e, hA, hB, q⟩ := q1
  subst e
  obtain ⟨u1, u2, rfl, r2, r3⟩ := vals2 r1
  cases (show u1 = Value.ref a from r2)
  cases (show u2 = Value.ref b from r3)
  obtain ⟨its, rv, pt', _⟩ := I1.tuple (SqT.of (K := X.K) hA)
  obtain ⟨its2, rv2, eL, _⟩ := I1.tuple (SqT.of (K := X.K) hB)
  refine call_zipTT (show s1.heap.IsTuple a its.toArray from pt') (istup_at eL) fun g z1 t1 t2 j1 j2 sz kk => ?_
  refine wpAny_pyIter_zip z1 ⟨s1.heap.objs.size + 4, [s1.heap.objs.size + 4, s1.heap.objs.size + 2, s1.heap.objs.size + 3, s1.heap.objs.size, s1.heap.objs.size + 1], _, Ity a b, H1, rfl, I1.kept (t' := s1.toks) kk, turn_zipT a b ?_, ⟨z1, t1, ⟨_, _, t2⟩, j1, j2⟩, fun e he => ?_, q⟩
  · constructor <;> (show @Ne Nat _ _; omega)
  · have hge : s1.heap.objs.size ≤ e := by
      simp only [List.mem_cons, List.not_mem_nil, or_false] at he
      rcases he with rfl | rfl | rfl | rfl | rfl <;> (show @LE.le Nat _ _ _; omega)
    exact I1.fpOk hge (I1.hok.fresh hge)
end
/-- over zip of two tuples, with two names -/
theorem compT_zip {K : PySem.W.Frag} {a b : Addr} {xs ys : List V} {js : List Nat} {tt : TT} {te : TE} {σ : St} {H : Hp} {Q : VK} (Pv : Nat → List V → Hp → Prop) (h0 : Pv 0 [] H) (hl : ∀ i zs H, i ≤ xs.length → Pv i zs H → H a = some (.tup xs) ∧ H b = some (.tup ys) ∧ zs.length ≤ i) (hz : xs.length ≤ sizeLine)
    (hs : ∀ i x y zs p H, xs[i]? = some x → ys[i]? = some y → Pv i zs H → H p = none → tt (some x :: some y :: blockSt σ js) (upd H p (.tup [x, y])) fun b H4 => if b = true then te (some x :: some y :: blockSt σ js) H4 fun y H5 => Pv (i + 1) (zs ++ [y]) H5 else Pv (i + 1) zs H4)
    (hd : ∀ zs H, Pv (min xs.length ys.length) zs H → ∀ D, H D = none → Q (.ref D) (upd H D (.lst zs))) : CompWT 2 (gPair K) js tt te σ Q (Ity a b) H := by
  refine ⟨fun i m zs H => i ≤ min xs.length ys.length ∧ m = xs.length - i ∧ Pv i zs H, ⟨_, Nat.zero_le _, rfl, h0⟩, fun i m zs H2 ⟨hi, hm, hp⟩ => ?_⟩
  obtain ⟨qa, qb, hy⟩ := hl i zs H2 (by omega) hp
  by_cases e : i = min xs.length ys.length
  · refine .inl ⟨⟨xs, ys, qa, qb, ?_⟩, by rw [e] at hp; exact hd zs H2 hp⟩
    by_cases e1 : xs.length ≤ i
    · exact .inl e1
    · exact .inr ⟨_, List.getElem?_eq_getElem (by omega), by omega⟩
  · have hlt : i < xs.length := by omega
    have hlt2 : i < ys.length := by omega
    refine .inr ⟨⟨xs, ys, _, _, qa, qb, List.getElem?_eq_getElem hlt, List.getElem?_eq_getElem hlt2⟩, by omega, Pv (i + 1), fun ys' H' hp' => ⟨xs.length - (i + 1), by omega, by omega, rfl, hp'⟩, fun v H3 hy3 v0 hv0 => ?_⟩
    obtain ⟨p, x, y, hn, rfl, rfl, hx, hy⟩ := hy3
    match v0, hv0 with
    | [v1, v2], _ => exact ⟨p, _, rfl, SqT.of upd_same, rfl, _, _, rfl, _, _, rfl, rfl, ⟨[some x, some y], rfl, rfl⟩, hs i x y zs p H2 (hx xs qa) (hy ys qb) hp hn⟩
end L2

/-! t[::-1] and t[a:b] of tuples, also the whole of one; sum of a list of whole numbers. -/
namespace L2
open PySem PySem.Spec PyProof.Rows
theorem fm_some {α β : Type} {f : α → Option β} {g : α → β} : ∀ (l : List α), (∀ x ∈ l, f x = some (g x)) → l.filterMap f = l.map g
  | [], _ => rfl
  | x :: l, h => by rw [List.filterMap_cons, h x (by simp), List.map_cons, fm_some l fun y hy => h y (List.mem_cons_of_mem _ hy)]
theorem pick_back (xs : Array Value) : ((List.range xs.size).filterMap fun (k : Nat) => xs[((xs.size : Int) - 1 + (k : Int) * (-1)).toNat]?) = xs.toList.reverse := by
  have e : ∀ k ∈ List.range xs.size, (fun (k : Nat) => xs[((xs.size : Int) - 1 + (k : Int) * (-1)).toNat]?) k = some ((fun k => xs.toList.getD (xs.size - 1 - k) .none) k) := fun k hk => by
    have hk := List.mem_range.mp hk
    have : ((xs.size : Int) - 1 + (k : Int) * (-1)).toNat = xs.size - 1 - k := by omega
    show xs[((xs.size : Int) - 1 + (k : Int) * (-1)).toNat]? = some (xs.toList.getD (xs.size - 1 - k) .none)
    rw [this, List.getD_eq_getElem?_getD, Array.getElem?_toList, Array.getElem?_eq_getElem (by omega)]
    rfl
  rw [fm_some _ e]
  refine List.ext_getElem (by simp) fun i h1 h2 => ?_
  have hi : i < xs.size := by simpa using h1
  rw [List.getElem_map, List.getElem_range, List.getElem_reverse, List.getD_eq_getElem?_getD, List.getElem?_eq_getElem (by rw [Array.length_toList]; omega)]
  simp
section
variable {prog : Program} {w : World} {A : Around} {E : Value → Shared → Prop} {s : Shared}
end
section
variable {X : Cx}
theorem vals_back : ∀ {xs : List V} {us : List Value}, Vals xs us → Vals xs.reverse us.reverse
  | _, _, .nil => .nil
  | _ :: _, _ :: _, .cons r t => by rw [List.reverse_cons, List.reverse_cons]; exact (vals_back t).append (.cons r .nil)
/-- sum(l) -/
theorem call_sum (hc : X.calm = true) : CallR X (.builtin "sum") (fun xs H Q => ∃ (p : Addr) (ns : List Int), xs = [.ref p] ∧ SqL X.K H p (ns.map V.int) ∧ Q (.int ns.sum) H) := by
  intro pins s σ H xs us Q I r h
  obtain ⟨p, ns, rfl, hq, q⟩ := h
  obtain ⟨u, rfl, ru⟩ := vals1 r
  cases (show u = Value.ref p from ru)
  obtain ⟨its, rv, pl, hz⟩ := I.list hq
  have hi := ints_are rv
  obtain ⟨ys, hx⟩ := hi.allInts.items
  have hl' : s.heap.IsList p (intItems ys) := hx ▸ pl.isList
  refine sum_intListG (I.ok.hd hc) hl' fun h' tk t' hk => ?_
  have e1 : ns = ys.toList.map (·.1) := by
    rw [← nums_intItems, ← hx]
    exact (show numsOf its.toArray.toList = ns from hi.numsOf).symm
  have e2 : preSum (numAt ys) ys.size = ns.sum := by
    rw [preSum_eq, List.take_of_length_le (by simp), e1]
  rw [e2]
  exact ⟨.int ns.sum, H, I.kept (t' := tk) hk, ⟨t', rfl⟩, q⟩
end
end L2

/-! l != []; t * 10, also of the empty one; comprehensions over a tuple of pairs. -/
namespace L2
open PySem PySem.Spec PyProof.Rows
section
variable {X : Cx}
theorem op_neL0 (hu : X.A.units < cLine) : OpR X (compareOp .NotEq) (fun x y H Q => ∃ a b xs, x = .ref a ∧ y = .ref b ∧ SqL X.K H a xs ∧ SqL X.K H b [] ∧ Q (.bl (!xs.isEmpty)) H) := by
  intro pins s σ H x y v u Q I rx ry h
  obtain ⟨a, b, xs, rfl, rfl, ha, hb, q⟩ := h
  cases (show v = Value.ref a from rx)
  cases (show u = Value.ref b from ry)
  obtain ⟨its, r1, p1, _⟩ := I.list ha
  obtain ⟨its2, r2, p2, _⟩ := I.list hb
  cases r2
  cases r1 with
  | nil =>
    refine SeqAt.RcNeAt.lists (A := X.A) (e := fun _ => true) p1.isList p2.isList rfl hu (fun j h1 _ => absurd h1 (by simp)) X.prog X.w _ _ (fin_bl I q (by simp))
  | cons _ _ => exact SeqAt.RcNeAt.lists_lengths (A := X.A) p1.isList p2.isList (by simp) hu X.prog X.w _ _ (fin_bl I q (by simp))
end
section
open AutoSeq1 (wpAny_loadPart')
end
section
variable {X : Cx}
end
end L2

/-! set(l) of a list of whole numbers, and how many it has. -/
namespace L2
open PySem PySem.Spec PyProof.Rows
def metL (ns : List Int) : List Int := firstMet (fun i => ns.getD i 0) ns.length
section
variable {X : Cx}
end
end L2

/-! more judgements as structures. -/
namespace L2
open PySem PySem.Spec PyProof.Rows
section
variable {X : Cx} {e : Expr} {es : List Expr} {te : TE} {t : TA} {pos : Pos}
end
end L2

/-! list(range(n)); t[::d] with d 1 or -1. -/
namespace L2
open PySem PySem.Spec PyProof.Rows
theorem vals_at : ∀ {xs : List V} {us : List Value}, xs.length = us.length → (∀ (i : Nat) (x : V), xs[i]? = some x → ∃ u, us[i]? = some u ∧ RelV x u) → Vals xs us
  | [], [], _, _ => .nil
  | [], _ :: _, h, _ => by cases h
  | _ :: _, [], h, _ => by cases h
  | x :: xs, u :: us, h, k => by
    obtain ⟨u', e, r⟩ := k 0 x rfl
    cases e
    exact .cons r (vals_at (by simpa using h) fun i y hy => k (i + 1) y hy)
section
variable {X : Cx}
theorem call_rng1 : CallR X (.type "range") (fun xs H Q => ∃ j : Int, xs = [.int j] ∧ New H (.rng 0 j) Q) := by
  intro pins s σ H xs us Q I r h
  obtain ⟨j, rfl, q⟩ := h
  obtain ⟨u, rfl, ru⟩ := vals1 r
  obtain ⟨t, rfl⟩ := (show ∃ t, u = Value.int j t from ru)
  refine call_range_1 ?_
  exact ⟨.ref s.heap.objs.size, _, I.laid (t' := s.toks + 1 + 1) (o := .rng 0 j) (fun _ _ z => Heap.get?_push_of_some _ z) (Nat.le_refl _) ⟨_, _, _, Heap.get?_push_size _ rfl⟩, rfl, q.of _ I.fresh⟩
theorem call_listR (hc : X.calm = true) : CallR X (.type "list") (fun xs H Q => ∃ (a : Addr) (n : Nat), xs = [.ref a] ∧ H a = some (.rng 0 (n : Int)) ∧ n ≤ 1000 ∧ ∀ l, H l = none → Q (.ref l) (upd H l (.lst ((List.range n).map fun k => V.int (k : Nat))))) := by
  intro pins s σ H xs us Q I r h
  obtain ⟨a, n, rfl, ha, hn, q⟩ := h
  obtain ⟨u, rfl, ru⟩ := vals1 r
  cases (show u = Value.ref a from ru)
  obtain ⟨t, u, v, hr⟩ := I.hok a _ ha
  have hs : Builtin.Range.rangeSize 0 (n : Int) 1 = n := by
    unfold Builtin.Range.rangeSize
    rw [if_pos (by decide)]
    by_cases h0 : (0 : Int) < n
    · rw [if_pos h0, Int.ediv_one]; omega
    · rw [if_neg h0]; omega
  refine call_list_range (n := n) (I.ok.hd hc) hr (by unfold Builtin.Range.small; rw [hs]; unfold Builtin.Range.rangeFitsLong; simp; omega) hs (by omega) fun h' tk acc c hk hg hi => ?_
  refine ⟨.ref s.heap.objs.size, _, I.laid (t' := tk) (o := .lst ((List.range n).map fun k => V.int (k : Nat))) hk (Nat.le_refl _) ⟨?_, acc.toList, c, ?_, ?_⟩, rfl, q _ I.fresh⟩
  · rw [List.length_map, List.length_range]; exact Nat.le_trans hn (by decide)
  · refine vals_at (by rw [List.length_map, List.length_range, Array.length_toList, hi.1]) fun i x hx => ?_
    rw [List.getElem?_map] at hx
    obtain ⟨k, hk2, rfl⟩ := Option.map_eq_some_iff.mp hx
    have hik : i < n := by have := (List.getElem?_eq_some_iff.mp hk2).1; rw [List.length_range] at this; exact this
    rw [List.getElem?_range hik] at hk2
    cases hk2
    have hi2 : i < acc.size := by rw [hi.1]; exact hik
    have e := Array.getElem?_eq_getElem hi2
    obtain ⟨t2, e2⟩ := hi.2 i _ e
    refine ⟨_, by rw [Array.getElem?_toList]; exact e, ⟨t2, ?_⟩⟩
    rw [e2]
    congr 1
    omega
  · rw [Array.toArray_toList]; exact hg
end
section
variable {prog : Program} {w : World} {A : Around} {E : Value → Shared → Prop} {s : Shared}
end
section
variable {X : Cx}
end
end L2

/-! a written list at an address of its own. -/
namespace L2
open PySem PySem.Spec PyProof.Rows
section
variable {X : Cx}
theorem k_lstF {es : List Expr} {t : TA} {pos : Pos} (h : PAs X es t) : PEs X (.List es pos) (tLst t) := ⟨pe_lst h.h⟩
end
end L2

/-! l[::-1] of a list. -/
namespace L2
open PySem PySem.Spec PyProof.Rows
theorem pick_backL (its : List Value) : slicePick its.toArray none none (some (-1)) = its.reverse.toArray := by
  unfold slicePick
  have e0 : sliceBounds none none (some (-1)) its.toArray.size = ((its.length : Int) - 1, -1, -1) := by
    rw [List.size_toArray]; rfl
  rw [e0]
  show ((sliceRange ((its.length : Int) - 1) (-1) (-1)).filterMap (its.toArray[·]?)).toArray = _
  unfold sliceRange
  have ec : (if (-1 : Int) > 0 then (if (its.length : Int) - 1 < -1 then (-1 - ((its.length : Int) - 1) + -1 - 1) / -1 else 0) else (if (its.length : Int) - 1 > -1 then ((its.length : Int) - 1 - -1 - -1 - 1) / (- -1) else 0)) = (its.length : Int) := by
    rw [if_neg (by decide), show -(-1 : Int) = 1 from rfl, Int.ediv_one]
    split <;> omega
  show (((List.range (if (-1 : Int) > 0 then (if (its.length : Int) - 1 < -1 then (-1 - ((its.length : Int) - 1) + -1 - 1) / -1 else 0) else (if (its.length : Int) - 1 > -1 then ((its.length : Int) - 1 - -1 - -1 - 1) / (- -1) else 0)).toNat).map fun (k : Nat) => ((its.length : Int) - 1 + -1 * (k : Int)).toNat).filterMap (its.toArray[·]?)).toArray = _
  rw [ec, Int.toNat_natCast, List.filterMap_map]
  have h := pick_back its.toArray
  rw [List.size_toArray] at h
  congr 1
  rw [← h]
  refine congrArg (fun f => List.filterMap f (List.range its.length)) (funext fun k => ?_)
  show its.toArray[((its.length : Int) - 1 + -1 * (k : Int)).toNat]? = its.toArray[((its.length : Int) - 1 + (k : Int) * (-1)).toNat]?
  rw [Int.mul_comm]
section
variable {X : Cx}
def tBackL (te : TE) : TE := fun σ H Q => te σ H fun x H1 => ∃ a xs, x = .ref a ∧ H1 a = some (.lst xs) ∧ New H1 (.lst xs.reverse) Q
theorem pe_backL {e : Expr} {te : TE} {pos p1 p2 p3 : Pos} {j} (he : PE X e te) : PE X (.Subscript e (.Slice none none (some (.UnaryOp .USub (.Constant (.int 1) j p3) p1)) p2) pos) (tBackL te) := by
  intro pins s σ H Q I h
  refine Subscript_ (thn (he pins s σ H _ I h) fun v s1 ⟨x, H1, I1, r1, q1⟩ => ?_)
  obtain ⟨a, xs, rfl, hx, q⟩ := q1
  refine wpAny_Slice ?_
  rw [evalPart_none, evalPart_some]
  refine wpAny_pure (wpAny_pure ?_)
  refine thn ((pe_un un_neg pe_int : PE X (.UnaryOp .USub (.Constant (.int 1) j p3) p1) _) pins s1 σ H1 (fun x H2 => x = .int (-1) ∧ H2 = H1) I1 ⟨_, rfl, rfl, rfl⟩) fun u s2 ⟨x2, H2, I2, r2, e2, e3⟩ => ?_
  subst e2 e3
  obtain ⟨t, rfl⟩ := r2
  cases r1
  have I4 : Inv X pins σ H2 { s2 with heap := s2.heap.push { cls := .type "slice", data := .fields #[.none, .none, .int (-1) t] } } := I2.kept (t' := s2.toks) fun b ob q => Heap.get?_push_of_some _ q
  obtain ⟨its, r, ht, hz⟩ := I4.list (SqL.of (K := X.K) hx)
  have hlen : its.length = xs.length := r.length.symm
  refine tail_any (ops := [.ref a, .ref s2.heap.objs.size]) ht.isList.typeIs slot_list_getitem.lookup (wpAny_getItem_list_slice ht.isList (Heap.IsSliceOf.new ..) .none .none (.int (-1) t) (by decide) ?_ (by rw [List.size_toArray, hlen]; exact hz)) (by with_unfolding_all rfl)
  rw [pick_backL]
  refine ⟨.ref _, _, I4.laid (t' := s2.toks) (o := .lst xs.reverse) (fun _ _ z => Heap.get?_push_of_some _ z) (Nat.le_refl _) ⟨by rw [List.length_reverse]; exact hz, its.reverse, 0, vals_back r, Heap.get?_push_size _ rfl⟩, rfl, q.of _ I4.fresh⟩
end
end L2

/-! THE PROGRAM's own defs: what is a net. -/
namespace HN
open PySem L2 PyProof.Rows

/-! ### 1. the mathematics -/
abbrev B60 : Int := 10 ^ 60 - 1
def isI : V → Bool
  | .int _ => true
  | _ => false
def iv : V → Int
  | .int i => i
  | _ => 0
def inI (v : V) (lo hi : Int) : Bool := match v with
  | .int i => decide (lo ≤ i) && decide (i ≤ hi)
  | _ => false
def endsB (m : Int) (s g : V) : Bool := inI s 0 (m - 1) && (inI g 0 (m - 1) && !decide (s = g))
def lensB (b : Int) (l o : V) : Bool := inI l 0 B60 && inI o (iv l) (if B60 < iv l + b - 1 then B60 else iv l + b - 1)
def spanOk (H : Hp) (b m : Int) (v : V) : Bool := match v with
  | .ref a => match H a with
    | some (.tup [s, g, l, o, w]) => endsB m s g && (lensB b l o && inI w 0 1000000000000)
    | _ => false
  | _ => false
def spansOk (H : Hp) (b m : Int) (v : V) : Bool := match v with
  | .ref a => match H a with
    | some (.tup xs) => decide (xs.length ≤ 40) && xs.all (spanOk H b m)
    | _ => false
  | _ => false
def netOk (H : Hp) (v : V) : Bool := match v with
  | .ref a => match H a with
    | some (.tup [b, m, s]) => inI b 1 B60 && (inI m 1 16 && spansOk H (iv b) (iv m) s)
    | _ => false
  | _ => false

/-- its sort is known; so are those of its items, and of theirs -/
def Kn (H : Hp) (v : V) : Prop := ∃ T, tyn H v = some T
def Below (P : V → Prop) (H : Hp) (v : V) : Prop := Kn H v ∧ ∀ a xs, v = .ref a → H a = some (.tup xs) → ∀ x ∈ xs, P x
abbrev G1 (H : Hp) (v : V) : Prop := Below (Kn H) H v
abbrev G2 (H : Hp) (v : V) : Prop := Below (G1 H) H v
abbrev G3 (H : Hp) (v : V) : Prop := Below (G2 H) H v

theorem sort_int {H : Hp} {v : V} {T : String} (h : tyn H v = some T) : (T == "int" || T == "bool") = true → (!(T == "bool")) = isI v := by
  cases v with
  | ref a =>
    simp only [tyn] at h
    cases q : H a with
    | none => rw [q] at h; cases h
    | some o => rw [q] at h; cases o <;> first | (cases h; intro z; exact absurd z (by decide)) | cases h
  | non => cases h; intro z; exact absurd z (by decide)
  | bl b => cases h; intro _; show (!("bool" == "bool")) = false; decide
  | int i => cases h; intro _; show (!("int" == "bool")) = true; decide
  | str x => cases h; intro z; exact absurd z (by decide)
  | _ => cases h
theorem sort_noInt {H : Hp} {v : V} {T : String} (h : tyn H v = some T) : ¬ (T == "int" || T == "bool") = true → isI v = false := by
  cases v with
  | int i => cases h; intro z; exact absurd (by decide) z
  | _ => intro _; rfl
theorem isI_of {v : V} (h : isI v = true) : ∃ i, v = .int i := by
  cases v with
  | int i => exact ⟨i, rfl⟩
  | _ => cases h
/-- a tuple or not -/
theorem sort_tup {H : Hp} {v : V} {T : String} (h : tyn H v = some T) : (∃ a xs, v = .ref a ∧ H a = some (.tup xs) ∧ (T == "tuple") = true) ∨ ((T == "tuple") = false ∧ ∀ a xs, v = .ref a → H a ≠ some (.tup xs)) := by
  cases v with
  | ref a =>
    simp only [tyn] at h
    cases q : H a with
    | none => rw [q] at h; cases h
    | some o =>
      rw [q] at h
      cases o with
      | tup xs => cases h; exact .inl ⟨a, xs, rfl, q, by decide⟩
      | lst xs => cases h; exact .inr ⟨by decide, fun b ys e z => by cases e; rw [q] at z; cases z⟩
      | dK xs => cases h; exact .inr ⟨by decide, fun b ys e z => by cases e; rw [q] at z; cases z⟩
      | _ => cases h
  | non => cases h; exact .inr ⟨by decide, fun a xs e => by cases e⟩
  | bl b => cases h; exact .inr ⟨by decide, fun a xs e => by cases e⟩
  | int i => cases h; exact .inr ⟨by decide, fun a xs e => by cases e⟩
  | str x => cases h; exact .inr ⟨by decide, fun a xs e => by cases e⟩
  | _ => cases h
theorem spanOk_no {H : Hp} {b m : Int} {v : V} (h : ∀ a xs, v = .ref a → H a = some (.tup xs) → xs.length ≠ 5) : spanOk H b m v = false := by
  cases v with
  | ref a =>
    simp only [spanOk]
    split
    · rename_i s g l o w e
      exact absurd rfl (h a _ rfl e)
    · rfl
  | _ => rfl
theorem netOk_no {H : Hp} {v : V} (h : ∀ a xs, v = .ref a → H a = some (.tup xs) → xs.length ≠ 3) : netOk H v = false := by
  cases v with
  | ref a =>
    simp only [netOk]
    split
    · rename_i b m s e
      exact absurd rfl (h a _ rfl e)
    · rfl
  | _ => rfl
theorem spansOk_no {H : Hp} {b m : Int} {v : V} (h : ∀ a xs, v = .ref a → H a = some (.tup xs) → 40 < xs.length) : spansOk H b m v = false := by
  cases v with
  | ref a =>
    simp only [spansOk]
    split
    · rename_i xs e
      have := h a _ rfl e
      rw [decide_eq_false (by omega)]; rfl
    · rfl
  | _ => rfl
theorem len5 {xs : List V} (h : xs.length = 5) : ∃ a b c d e, xs = [a, b, c, d, e] := by
  match xs, h with
  | [a, b, c, d, e], _ => exact ⟨a, b, c, d, e, rfl⟩
theorem len3 {xs : List V} (h : xs.length = 3) : ∃ a b c, xs = [a, b, c] := by
  match xs, h with
  | [a, b, c], _ => exact ⟨a, b, c, rfl⟩

theorem iteB {b : Bool} {A B : Prop} (h : b = true) (x : A) : if b = true then A else B := by rw [if_pos h]; exact x
theorem iteC {b : Bool} {A B : Prop} (h : b = false) (x : B) : if b = true then A else B := by rw [if_neg (by rw [h]; exact Bool.false_ne_true)]; exact x

/-! ### 2. what the text has -/
structure Nm (mg : Str → Option Value) : Prop where
  isin : mg "isinstance" = none
  tint : mg "int" = none
  tbool : mg "bool" = none
  ttup : mg "tuple" = none
  len : mg "len" = none
  min : mg "min" = none
  all : mg "all" = none
structure Cs (mg : Str → Option Value) : Prop where
  mh : ∃ t, mg "MOST_HAPPENINGS" = some (.int 16 t)
  ms : ∃ t, mg "MOST_SPANS" = some (.int 40 t)
  mw : ∃ t, mg "MOST_WEIGHT" = some (.int 1000000000000 t)
structure Fn (K : PySem.W.Frag) (mg : Str → Option Value) (x : Str) (st : Stmt) (ps : List Str) (f : Addr) (fd : FuncData) : Prop where
  F : Fun K x x st f fd
  mg : mg x = some (.ref f)
  b : Binds K fd ps []
theorem pc1 {X : Cx} {k : Nat} {f : Addr} {fd : FuncData} {ps : List Str} {sp : Sp} {x : Str} {st : Stmt} {p pos : Pos} {e : Expr} {es : List Expr} {t : TA} (G : Fn X.K X.mg x st ps f fd) (F : FnOk X.prog X.w X.K X.mg X.base CX0 k f fd ps sp) (hr : Room k X.A)
    (ha : PA X (e :: es) t) (hg : Gl X x := by rfl) (hdb : (x == ("__debug__" : Str)) = false := by decide) (he : starEach (e :: es) X.env = (false, eval e X.env) :: starEach es X.env := by rfl) (hpl : (backTo pos (starEach es X.env)).any (·.1) = false := by rfl) :
    PE X (.Call (.Name x p) (e :: es) [] pos) (tCall sp [] E0 t) := pe_call F hr hg G.mg G.F.kp G.b .nil pass0 ha hdb he hpl
theorem pc0 {X : Cx} {k : Nat} {f : Addr} {fd : FuncData} {sp : Sp} {x : Str} {st : Stmt} {p pos : Pos} (G : Fn X.K X.mg x st [] f fd) (F : FnOk X.prog X.w X.K X.mg X.base CX0 k f fd [] sp) (hr : Room k X.A)
    (hg : Gl X x := by rfl) (hdb : (x == ("__debug__" : Str)) = false := by decide) : PE X (.Call (.Name x p) [] [] pos) (tCall sp [] E0 tNil) := pe_call0 F hr hg G.mg G.F.kp G.b .nil pass0 hdb
theorem pe_gint {X : Cx} {x : Str} {i : Int} {pos : Pos} (hm : ∃ t, X.mg x = some (.int i t)) (hg : Gl X x := by rfl) (hd : (x == ("__debug__" : Str)) = false := by decide) : PE X (.Name x pos) (tC (.int i)) :=
  let ⟨t, e⟩ := hm; pe_glob (v := .int i) (u := .int i t) hg e ⟨t, rfl⟩ hd
/-- isinstance(e, T) -/
theorem pe_isTup {X : Cx} {e : Expr} {te : TE} {p p2 pos : Pos} (N : Nm X.mg) (he : PE X e te) (hg : Gl X "isinstance" := by rfl) (hg2 : Gl X "tuple" := by rfl)
    (hs1 : starEach [e, .Name "tuple" p2] X.env = (false, eval e X.env) :: starEach [.Name "tuple" p2] X.env := by rfl) (hpl : (backTo pos (starEach [.Name "tuple" p2] X.env)).any (·.1) = false := by rfl) :
    PE X (.Call (.Name "isinstance" p) [e, .Name "tuple" p2] [] pos) (tCB (fun xs H Q => ∃ x T, xs = [x, .ty "tuple"] ∧ tyn H x = some T ∧ Q (.bl (T == "tuple")) H) (tCons te (tCons (tC (.ty "tuple")) tNil))) :=
  pe_callB call_isTup hg N.isin boot_isinstance (pa_cons he (pa_cons (pe_bltn hg2 N.ttup boot_tuple rfl) pa_nil) hs1) (he := hs1) (hpl := hpl)
theorem pe_isInt {X : Cx} {e : Expr} {te : TE} {p p2 pos : Pos} (N : Nm X.mg) (he : PE X e te) (hg : Gl X "isinstance" := by rfl) (hg2 : Gl X "int" := by rfl)
    (hs1 : starEach [e, .Name "int" p2] X.env = (false, eval e X.env) :: starEach [.Name "int" p2] X.env := by rfl) (hpl : (backTo pos (starEach [.Name "int" p2] X.env)).any (·.1) = false := by rfl) :
    PE X (.Call (.Name "isinstance" p) [e, .Name "int" p2] [] pos) (tCB (fun xs H Q => ∃ x T, xs = [x, .ty "int"] ∧ tyn H x = some T ∧ Q (.bl (T == "int" || T == "bool")) H) (tCons te (tCons (tC (.ty "int")) tNil))) :=
  pe_callB call_isInt hg N.isin boot_isinstance (pa_cons he (pa_cons (pe_bltn hg2 N.tint boot_int rfl) pa_nil) hs1) (he := hs1) (hpl := hpl)
theorem pe_isBool {X : Cx} {e : Expr} {te : TE} {p p2 pos : Pos} (N : Nm X.mg) (he : PE X e te) (hg : Gl X "isinstance" := by rfl) (hg2 : Gl X "bool" := by rfl)
    (hs1 : starEach [e, .Name "bool" p2] X.env = (false, eval e X.env) :: starEach [.Name "bool" p2] X.env := by rfl) (hpl : (backTo pos (starEach [.Name "bool" p2] X.env)).any (·.1) = false := by rfl) :
    PE X (.Call (.Name "isinstance" p) [e, .Name "bool" p2] [] pos) (tCB (fun xs H Q => ∃ x T, xs = [x, .ty "bool"] ∧ tyn H x = some T ∧ Q (.bl (T == "bool")) H) (tCons te (tCons (tC (.ty "bool")) tNil))) :=
  pe_callB call_isBool hg N.isin boot_isinstance (pa_cons he (pa_cons (pe_bltn hg2 N.tbool boot_bool rfl) pa_nil) hs1) (he := hs1) (hpl := hpl)

/-! ### 3. promises -/
def spGW : Sp := fun vs H Q _ => vs = [] ∧ Q (.int B60) H
def spWhole : Sp := fun vs H Q _ => ∃ v, vs = [v] ∧ Kn H v ∧ Q (.bl (isI v)) H
def spWithin : Sp := fun vs H Q _ => ∃ v lo hi, vs = [v, .int lo, .int hi] ∧ Kn H v ∧ Q (.bl (inI v lo hi)) H
def spEnds : Sp := fun vs H Q _ => ∃ m s g, vs = [.int m, s, g] ∧ Kn H s ∧ Kn H g ∧ Q (.bl (endsB m s g)) H
def spLens : Sp := fun vs H Q _ => ∃ b l o, vs = [.int b, l, o] ∧ Kn H l ∧ Kn H o ∧ Q (.bl (lensB b l o)) H
def spSpan : Sp := fun vs H Q _ => ∃ b m v, vs = [.int b, .int m, v] ∧ G1 H v ∧ Q (.bl (spanOk H b m v)) H
def spNet : Sp := fun vs H Q _ => ∃ v, vs = [v] ∧ G3 H v ∧ ∀ H', Same H H' → Q (.bl (netOk H v)) H'
end HN

/-! tables, as data. -/
namespace HN
open PySem L2 PyProof.Rows
/-- a span as data -/
structure Sn where
  s : Int
  g : Int
  l : Int
  o : Int
  w : Int
abbrev Sn.row (x : Sn) : List Int := [x.s, x.g, x.l, x.o, x.w]
abbrev netP (b m : Int) (sp : List Sn) : Dt := .tup [.int b, .int m, .tup (sp.map fun x => .tup (x.row.map Dt.int))]
theorem netP_of {H : Hp} {v : V} {b m : Int} {sp : List Sn} (h : IsD H v (netP b m sp)) : ∃ t p ys, v = .ref t ∧ H t = some (.tup [.int b, .int m, .ref p]) ∧ H p = some (.tup ys) ∧ ys.length = sp.length ∧ ∀ (i : Nat) (x : Sn), sp[i]? = some x → ∃ q, ys[i]? = some (.ref q) ∧ H q = some (.tup [.int x.s, .int x.g, .int x.l, .int x.o, .int x.w]) := by
  obtain ⟨t, xs, rfl, ht, rx⟩ := h.tup_of
  cases rx with
  | cons h0 r0 =>
    cases r0 with
    | cons h1 r1 =>
      cases r1 with
      | cons h2 r2 =>
        cases r2
        cases h0
        cases h1
        obtain ⟨p, ys, rfl, hp, ry⟩ := h2.tup_of
        refine ⟨t, p, ys, rfl, ht, hp, by rw [ry.length, List.length_map], fun i x hx => ?_⟩
        obtain ⟨y, hy, dy⟩ := ry.at (i := i) (d := .tup (x.row.map Dt.int)) (by rw [List.getElem?_map, hx]; rfl)
        obtain ⟨q, zs, rfl, hq, rz⟩ := dy.tup_of
        have ez := rz.ints_of
        subst ez
        exact ⟨q, hy, hq⟩
def tm (ts : List Int) (i : Int) : Int := ts.getD i.toNat 0
theorem tm_at {ts : List Int} {i : Int} (h0 : 0 ≤ i) (h1 : i < ts.length) : atI (ts.map V.int) i = some (.int (tm ts i)) := by
  obtain ⟨j, rfl⟩ := Int.eq_ofNat_of_zero_le h0
  refine atI_nat ?_
  rw [List.getElem?_map, List.getElem?_eq_getElem (by omega)]
  unfold tm
  rw [Int.toNat_natCast, List.getD_eq_getElem?_getD, List.getElem?_eq_getElem (by omega)]
  rfl
/-- beat, times and spans belong together -/
structure Rdy (b : Int) (ts : List Int) (sp : List Sn) : Prop where
  b1 : 0 < b
  few : sp.length ≤ 1000
  ends : ∀ x ∈ sp, 0 ≤ x.s ∧ x.s < ts.length ∧ 0 ≤ x.g ∧ x.g < ts.length
def waitM (b : Int) (ts : List Int) (x : Sn) : Int := (tm ts x.g - tm ts x.s - x.l) % b
def waitsM (b : Int) (ts : List Int) (sp : List Sn) : List Int := sp.map (waitM b ts)
def brk (b : Int) (ts : List Int) (x : Sn) : Bool := decide (x.o - x.l < waitM b ts x)
def brokenM (b : Int) (ts : List Int) (sp : List Sn) : List Int := ((List.range sp.length).filter fun i => match sp[i]? with | some x => brk b ts x | none => false).map Int.ofNat
def fitsM (b : Int) (ts : List Int) (sp : List Sn) : Bool := !(sp.any (brk b ts))
def waitOfM (b : Int) (ts : List Int) (sp : List Sn) : Int := (sp.map fun x => x.w * waitM b ts x).sum
def movedL (b k : Int) (ns : List Int) : List Int := ns.map fun n => (n + k) % b
theorem small_le {n : Nat} (h : n ≤ 1000) : n ≤ sizeLine := Nat.le_trans h (by decide)
theorem brokenM_nil {b : Int} {ts : List Int} {sp : List Sn} : ((brokenM b ts sp).length = 0) ↔ fitsM b ts sp = true := by
  unfold brokenM fitsM
  rw [List.length_map, List.length_eq_zero_iff, List.filter_eq_nil_iff, Bool.not_eq_true', List.any_eq_false]
  constructor
  · intro h x hx
    obtain ⟨i, hi, rfl⟩ := List.getElem_of_mem hx
    have := h i (List.mem_range.mpr hi)
    rw [List.getElem?_eq_getElem hi] at this
    exact this
  · intro h i hi
    have hi := List.mem_range.mp hi
    rw [List.getElem?_eq_getElem hi]
    exact h _ (List.getElem_mem hi)
def bkAt (b : Int) (ts : List Int) (sp : List Sn) (k : Nat) : List Int := ((List.range k).filter fun i => match sp[i]? with | some x => brk b ts x | none => false).map Int.ofNat
theorem bkAt_more {b : Int} {ts : List Int} {sp : List Sn} {k : Nat} {x : Sn} (h : sp[k]? = some x) : bkAt b ts sp (k + 1) = bkAt b ts sp k ++ (if brk b ts x = true then [(k : Int)] else []) := by
  unfold bkAt
  rw [List.range_succ, List.filter_append, List.map_append]
  congr 1
  rw [List.filter_cons, h]
  by_cases q : brk b ts x = true
  · simp only [q, if_true]; rfl
  · simp only [q, if_false]; rfl
theorem bkAt_len {b : Int} {ts : List Int} {sp : List Sn} (k : Nat) : (bkAt b ts sp k).length ≤ k := by
  unfold bkAt
  rw [List.length_map]
  exact Nat.le_trans (List.length_filter_le _ _) (by rw [List.length_range]; exact Nat.le_refl _)
structure Nt (mg : Str → Option Value) : Prop where
  range : mg "range" = none
  enum : mg "enumerate" = none
  zip : mg "zip" = none
  sum : mg "sum" = none
  tlist : mg "list" = none
  max : mg "max" = none
/-- a drawn span, a drawn net -/
structure SnOk (b m : Int) (x : Sn) : Prop where
  s0 : 0 ≤ x.s
  s1 : x.s < m
  g0 : 0 ≤ x.g
  g1 : x.g < m
  ne : x.s ≠ x.g
  l0 : 0 ≤ x.l
  lo : x.l ≤ x.o
  ob : x.o < x.l + b
  o60 : x.o < 10 ^ 60
  w0 : 0 ≤ x.w
  w1 : x.w ≤ 1000000000000
structure NetT (b m : Int) (sp : List Sn) : Prop where
  b1 : 1 ≤ b
  b2 : b ≤ 10 ^ 59
  m1 : 1 ≤ m
  m2 : m ≤ 16
  few : sp.length ≤ 40
  all : ∀ x ∈ sp, SnOk b m x
theorem NetT.rdy {b m : Int} {sp : List Sn} {ts : List Int} (h : NetT b m sp) (ht : (ts.length : Int) = m) : Rdy b ts sp :=
  ⟨by have := h.b1; omega, by have := h.few; omega, fun x hx => by have := h.all x hx; exact ⟨this.s0, by have := this.s1; omega, this.g0, by have := this.g1; omega⟩⟩
theorem NetT.ws {b m : Int} {sp : List Sn} (h : NetT b m sp) : ∀ x ∈ sp, 0 ≤ x.w ∧ x.w ≤ 1000000000000 := fun x hx => ⟨(h.all x hx).w0, (h.all x hx).w1⟩
theorem tm_in {b : Int} {ts : List Int} {i : Int} (h : ∀ i ∈ ts, 0 ≤ i ∧ i < b) (h0 : 0 ≤ i) (h1 : i < ts.length) : 0 ≤ tm ts i ∧ tm ts i < b := by
  have hi : i.toNat < ts.length := by omega
  have e : tm ts i = ts[i.toNat] := by unfold tm; rw [List.getD_eq_getElem?_getD, List.getElem?_eq_getElem hi]; rfl
  rw [e]; exact h _ (List.getElem_mem hi)
/-! ### tables moved -/
theorem rest_two (x y l b : Int) : (x % b - y % b - l) % b = (x - y - l) % b := by
  have hx := Int.mul_ediv_add_emod x b
  have hy := Int.mul_ediv_add_emod y b
  have e : x - y - l = (x % b - y % b - l) + b * (x / b - y / b) := by rw [Int.mul_sub]; omega
  rw [e, Int.add_mul_emod_self_left]
theorem tm_moved {b k : Int} {ts : List Int} {i : Int} (h0 : 0 ≤ i) (h1 : i < ts.length) : tm (movedL b k ts) i = (tm ts i + k) % b := by
  have hi : i.toNat < ts.length := by omega
  unfold tm movedL
  rw [List.getD_eq_getElem?_getD, List.getD_eq_getElem?_getD, List.getElem?_map, List.getElem?_eq_getElem hi]
  rfl
theorem waitM_moved {b k : Int} {ts : List Int} {sp : List Sn} (R : Rdy b ts sp) : ∀ x ∈ sp, waitM b (movedL b k ts) x = waitM b ts x := fun x hx => by
  obtain ⟨s0, s1, g0, g1⟩ := R.ends x hx
  unfold waitM
  rw [tm_moved s0 s1, tm_moved g0 g1, rest_two]
  congr 1
  omega
theorem Rdy.moved {b k : Int} {ts : List Int} {sp : List Sn} (R : Rdy b ts sp) : Rdy b (movedL b k ts) sp :=
  ⟨R.b1, R.few, fun x hx => by unfold movedL; rw [List.length_map]; exact R.ends x hx⟩
theorem waitOfM_moved {b k : Int} {ts : List Int} {sp : List Sn} (R : Rdy b ts sp) : waitOfM b (movedL b k ts) sp = waitOfM b ts sp := by
  unfold waitOfM
  rw [List.map_congr_left fun x hx => by rw [waitM_moved R x hx]]
theorem fitsM_moved {b k : Int} {ts : List Int} {sp : List Sn} (R : Rdy b ts sp) : fitsM b (movedL b k ts) sp = fitsM b ts sp := by
  unfold fitsM
  congr 1
  rw [Bool.eq_iff_iff, List.any_eq_true, List.any_eq_true]
  constructor
  · rintro ⟨x, hx, h⟩
    refine ⟨x, hx, ?_⟩
    unfold brk at h ⊢
    rw [waitM_moved R x hx] at h; exact h
  · rintro ⟨x, hx, h⟩
    refine ⟨x, hx, ?_⟩
    unfold brk at h ⊢
    rw [waitM_moved R x hx]; exact h
/-! ### promises -/
def spRest : Sp := fun vs H Q _ => ∃ b n, vs = [.int b, .int n] ∧ 0 < b ∧ Q (.int (n % b)) H
def spWidth : Sp := fun vs H Q _ => ∃ v b m sp i x, vs = [v, .int (i : Nat)] ∧ IsD H v (netP b m sp) ∧ sp[i]? = some x ∧ Q (.int (x.o - x.l)) H
def spWaitIn : Sp := fun vs H Q _ => ∃ v u b m sp ts i x, vs = [v, .ref u, .int (i : Nat)] ∧ IsD H v (netP b m sp) ∧ H u = some (.tup (ts.map V.int)) ∧ Rdy b ts sp ∧ sp[i]? = some x ∧ Q (.int (waitM b ts x)) H
def spWaits : Sp := fun vs H Q _ => ∃ v u b m sp ts, vs = [v, .ref u] ∧ IsD H v (netP b m sp) ∧ H u = some (.tup (ts.map V.int)) ∧ Rdy b ts sp ∧ ∀ p H', Same H H' → H' p = some (.tup ((waitsM b ts sp).map V.int)) → Q (.ref p) H'
def spBroken : Sp := fun vs H Q _ => ∃ v u b m sp ts, vs = [v, .ref u] ∧ IsD H v (netP b m sp) ∧ H u = some (.tup (ts.map V.int)) ∧ Rdy b ts sp ∧ ∀ p H', Same H H' → H' p = some (.tup ((brokenM b ts sp).map V.int)) → Q (.ref p) H'
def spFits : Sp := fun vs H Q _ => ∃ v u b m sp ts, vs = [v, .ref u] ∧ IsD H v (netP b m sp) ∧ H u = some (.tup (ts.map V.int)) ∧ Rdy b ts sp ∧ ∀ H', Same H H' → Q (.bl (fitsM b ts sp)) H'
def spWaitOf : Sp := fun vs H Q _ => ∃ v u b m sp ts, vs = [v, .ref u] ∧ IsD H v (netP b m sp) ∧ H u = some (.tup (ts.map V.int)) ∧ Rdy b ts sp ∧ (∀ x ∈ sp, 0 ≤ x.w ∧ x.w ≤ 1000000000000) ∧ ∀ H', Same H H' → Q (.int (waitOfM b ts sp)) H'
def spMoved : Sp := fun vs H Q _ => ∃ t u b rest ns k, vs = [.ref t, .ref u, .int k] ∧ H t = some (.tup (.int b :: rest)) ∧ H u = some (.tup (ns.map V.int)) ∧ 0 < b ∧ ns.length ≤ 1000 ∧ ∀ p H', Same H H' → H' p = some (.tup ((movedL b k ns).map V.int)) → Q (.ref p) H'
/-- a thing is a table of a net with this beat and so many happenings -/
def timeOk (b : Int) (d : Dt) : Bool := match d with
  | .int i => decide (0 ≤ i) && decide (i ≤ b - 1)
  | _ => false
def tabOk (b m : Int) (d : Dt) : Bool := match d with
  | .tup ds => decide ((ds.length : Int) = m) && ds.all (timeOk b)
  | _ => false
theorem tabOk_ints {b m : Int} {ts : List Int} (h : ∀ i ∈ ts, 0 ≤ i ∧ i < b) (hl : (ts.length : Int) = m) : tabOk b m (.tup (ts.map Dt.int)) = true := by
  show (decide (((ts.map Dt.int).length : Int) = m) && (ts.map Dt.int).all (timeOk b)) = true
  rw [List.length_map, decide_eq_true hl, Bool.true_and, List.all_eq_true]
  intro d hd
  obtain ⟨i, hi, rfl⟩ := List.mem_map.mp hd
  obtain ⟨h0, h1⟩ := h i hi
  show (decide (0 ≤ i) && decide (i ≤ b - 1)) = true
  rw [decide_eq_true h0, decide_eq_true (by omega : i ≤ b - 1)]; rfl
def spTable : Sp := fun vs H Q _ => ∃ t b m rest v d, vs = [.ref t, v] ∧ H t = some (.tup (.int b :: .int m :: rest)) ∧ IsD H v d ∧ (∀ ds, d = .tup ds → ds.length ≤ 1000) ∧ ∀ H', Same H H' → Q (.bl (tabOk b m d)) H'
end HN

/-! drawing out of a box: the promises. -/
namespace HN
open PySem L2 PyProof.Rows
/-- the box at p turns, all else stands -/
def Mb (p : Addr) (H H' : Hp) : Prop := (∀ b o, b ≠ p → H b = some o → H' b = some o) ∧ ∃ x y, H' p = some (.lst [.int x, .int y])
theorem atI_in {α : Type} {xs : List α} {r : Int} (h0 : 0 ≤ r) (h1 : r < xs.length) : ∃ v, atI xs r = some v ∧ v ∈ xs := by
  obtain ⟨j, rfl⟩ := Int.eq_ofNat_of_zero_le h0
  have hj : j < xs.length := by omega
  exact ⟨xs[j], atI_nat (List.getElem?_eq_getElem hj), List.getElem_mem hj⟩
theorem log_ok {m : Int} (h0 : 0 < m) (h : m < 10 ^ 61) : 0 < m ∧ m.natAbs.log2 < 9000 := by
  refine ⟨h0, ?_⟩
  have h1 : m.natAbs < 2 ^ 300 := by
    have : (10 : Nat) ^ 61 < 2 ^ 300 := by decide +kernel
    have h2 : m.natAbs < 10 ^ 61 := by omega
    exact Nat.lt_trans h2 this
  have h3 : m.natAbs ≠ 0 := by omega
  have := (Nat.log2_lt h3).mpr h1
  omega
theorem goal_ok {s t m : Int} (h0 : 0 ≤ s) (h1 : s < m) (h2 : 0 ≤ t) (h3 : t < m - 1) : 0 ≤ (s + 1 + t) % m ∧ (s + 1 + t) % m < m ∧ s ≠ (s + 1 + t) % m := by
  have hm : 0 < m := by omega
  have a := Int.emod_nonneg (s + 1 + t) (by omega : m ≠ 0)
  have b := Int.emod_lt_of_pos (s + 1 + t) hm
  refine ⟨a, b, ?_⟩
  by_cases q : s + 1 + t < m
  · rw [Int.emod_eq_of_lt (by omega) q]; omega
  · have e : (s + 1 + t) % m = (s + 1 + t - m) % m := (Int.sub_emod_right _ _).symm
    rw [e, Int.emod_eq_of_lt (by omega) (by omega)]; omega
end HN

/-! ways and rings, as data. -/
namespace HN
open PySem L2 PyProof.Rows
/-- a tuple of tuples of whole numbers -/
abbrev rowsP {α : Type} (f : α → List Int) (xs : List α) : Dt := .tup (xs.map fun x => .tup ((f x).map Dt.int))
/-- a step: a span's number, and which way -/
structure Stp where
  i : Nat
  d : Int
abbrev Stp.row (s : Stp) : List Int := [(s.i : Int), s.d]
abbrev wayP (ws : List Stp) : Dt := rowsP Stp.row ws
def frm (x : Sn) (d : Int) : Int := if d = 1 then x.s else x.g
def too (x : Sn) (d : Int) : Int := if d = 1 then x.g else x.s
def WayIn (n : Nat) (ws : List Stp) : Prop := ∀ s ∈ ws, s.i < n ∧ (s.d = 1 ∨ s.d = -1)
def frmS (sp : List Sn) (s : Stp) : Int := match sp[s.i]? with | some x => frm x s.d | none => 0
def tooS (sp : List Sn) (s : Stp) : Int := match sp[s.i]? with | some x => too x s.d | none => 0
end HN

/-! walking: the promises. -/
namespace HN
open PySem L2 PyProof.Rows
/-- a value that is a step, a value that is a pair -/
def StepV (n : Nat) (H : Hp) (v : V) : Prop := ∃ (q : Addr) (s : Stp), v = .ref q ∧ H q = some (.tup (s.row.map V.int)) ∧ s.i < n ∧ (s.d = 1 ∨ s.d = -1)
def PairV (H : Hp) (v : V) : Prop := ∃ (q : Addr) (a b : Int), v = .ref q ∧ H q = some (.tup [.int a, .int b])
end HN

/-! ways gone back. -/
namespace HN
open PySem L2 PyProof.Rows
abbrev rowsD {α : Type} (f : α → List Int) (xs : List α) : List Dt := xs.map fun x => .tup ((f x).map Dt.int)
end HN

/-! what is a way, what is a ring: of any data. -/
namespace HN
open PySem L2 PyProof.Rows
structure N3 (mg : Str → Option Value) : Prop where
  tset : mg "set" = none
def stepD (n : Nat) : Dt → Option Stp
  | .tup [.int i, .int k] => if 0 ≤ i ∧ i ≤ (n : Int) - 1 ∧ (k = 1 ∨ k = -1) then some ⟨i.toNat, k⟩ else none
  | _ => none
def stepB (n : Nat) (d : Dt) : Bool := (stepD n d).isSome
def zipB (sp : List Sn) (ss : List Stp) : Bool := (ss.zip ss.tail).all fun p => decide (tooS sp p.1 = frmS sp p.2)
def wayB (sp : List Sn) (d : Dt) : Bool := match d with
  | .tup ds => !ds.isEmpty && (ds.all (stepB sp.length) && zipB sp (ds.filterMap (stepD sp.length)))
  | _ => false
def fstB (sp : List Sn) (ss : List Stp) : Int := match ss[0]? with | some s => frmS sp s | none => 0
def lstB (sp : List Sn) (ss : List Stp) : Int := match ss[ss.length - 1]? with | some s => tooS sp s | none => 0
def numsS (ss : List Stp) : List Int := ss.map fun s => (s.i : Int)
def ringOf (sp : List Sn) (ss : List Stp) : Bool := decide (2 ≤ ss.length) && (decide ((metL (numsS ss)).length = ss.length) && decide (fstB sp ss = lstB sp ss))
def ringB (sp : List Sn) (d : Dt) : Bool := match d with
  | .tup ds => wayB sp (.tup ds) && ringOf sp (ds.filterMap (stepD sp.length))
  | _ => false
/-! ### promises -/
end HN

/-! beats of rings: the promises. -/
namespace HN
open PySem L2 PyProof.Rows
/-- all tuples stand -/
def TupK (H H' : Hp) : Prop := ∀ q xs, H q = some (.tup xs) → H' q = some (.tup xs)
theorem TupK.trans {H H1 H2 : Hp} (a : TupK H H1) (b : TupK H1 H2) : TupK H H2 := fun q xs h => b q xs (a q xs h)
theorem Same.tupK {H H' : Hp} (e : Same H H') : TupK H H' := fun _ _ h => e _ _ h
theorem tupK_upd {H : Hp} {p : Addr} {xs : List V} {o : HO} (hp : H p = some (.lst xs)) : TupK H (upd H p o) := fun q ys h => by rw [upd_ne (ne_of h hp (by intro z; cases z))]; exact h
theorem rows_keep {α : Type} {f : α → List Int} {H H' : Hp} (e : TupK H H') : ∀ {xs : List α} {zs : List V}, IsDs H zs (rowsD f xs) → IsDs H' zs (rowsD f xs)
  | [], _, h => by cases h; exact .nil
  | x :: xs, zs, h => by
    unfold rowsD at h ⊢
    rw [List.map_cons] at h ⊢
    cases h with
    | cons h1 h2 =>
      obtain ⟨q, ws, rfl, hq, rw'⟩ := h1.tup_of
      have e2 := rw'.ints_of
      subst e2
      exact .cons (.tup (e q _ hq) (IsDs.ints _)) (rows_keep e h2)
def PairW (H : Hp) (v : V) : Prop := ∃ (q : Addr) (a b : Int), v = .ref q ∧ H q = some (.tup [.int a, .int b]) ∧ 0 ≤ a ∧ a ≤ b ∧ b < 10 ^ 60
/-- a round: its steps lead through the happenings hs -/
def Rounds (hs : List Int) (n : Nat) (sp : List Sn) (ws : List Stp) : Prop := ∀ i, i < n → ∃ d x, ws[i]? = some ⟨i, d⟩ ∧ sp[i]? = some x ∧ (d = 1 ∨ d = -1) ∧ some (frm x d) = hs[i]? ∧ some (too x d) = hs[(i + 1) % hs.length]?
end HN

/-! drawing off a deck: the promises. -/
namespace HN
open PySem L2 PyProof.Rows
/-- the deck at p: a list of whole numbers, never empty -/
def Dk (p : Addr) (H : Hp) : Prop := ∃ (k : Int) (ns : List Int), H p = some (.lst ((k :: ns).map V.int)) ∧ ns.length ≤ 1000
/-- the deck at p is drawn from, all else stands -/
def Md (p : Addr) (H H' : Hp) : Prop := (∀ b o, b ≠ p → H b = some o → H' b = some o) ∧ Dk p H'
theorem Md.refl {p : Addr} {H : Hp} (h : Dk p H) : Md p H H := ⟨fun _ _ _ e => e, h⟩
theorem Md.trans {p : Addr} {H H1 H2 : Hp} (a : Md p H H1) (b : Md p H1 H2) : Md p H H2 := ⟨fun c o hc e => b.1 c o hc (a.1 c o hc e), b.2⟩
theorem Dk.same {p : Addr} {H H1 : Hp} (h : Dk p H) (e : Same H H1) : Dk p H1 := let ⟨k, ns, a, b⟩ := h; ⟨k, ns, e _ _ a, b⟩
theorem Md.then {p : Addr} {H H1 H2 : Hp} (a : Md p H H1) (e : Same H1 H2) : Md p H H2 := ⟨fun c o hc q => e _ _ (a.1 c o hc q), a.2.same e⟩
theorem Md.at {p q : Addr} {H H1 : Hp} {o : HO} (a : Md p H H1) (h : H q = some o) (hne : q ≠ p) : H1 q = some o := a.1 q o hne h
theorem Md.tupK {p : Addr} {H H' : Hp} (hp : Dk p H) (M : Md p H H') : TupK H H' := fun q ys h => by
  obtain ⟨k, ns, e, _⟩ := hp
  exact M.1 q _ (ne_of h e (by intro z; cases z)) h
theorem Dk.ne {p q : Addr} {H : Hp} (h : Dk p H) (hq : H q = none) : q ≠ p := fun z => by obtain ⟨k, ns, e, _⟩ := h; rw [z, e] at hq; cases hq
def spDrawD : Sp := fun vs H Q _ => ∃ (p : Addr) (m : Int), vs = [.ref p, .int m] ∧ Dk p H ∧ 0 < m ∧ m < 10 ^ 61 ∧ ∀ r H', 0 ≤ r → r < m → Md p H H' → Q (.int r) H'
end HN

/-! zip of any sequences, each a list or a tuple. -/
namespace L2
open PySem PySem.Spec PyProof.Rows
section
variable {M : Model} {A : Around} {E : Value → Shared → Prop}
theorem wp_forIn {α β : Type} {f : α → β → Sem (ForInStep β)} {Q : β → Shared → Prop} : ∀ (l : List α) (I : Nat → β → Shared → Prop) (b : β) (s : Shared), I 0 b s →
    (∀ i a b s, l[i]? = some a → I i b s → wpAny M A (f a b) (fun r s' => ∃ b', r = .yield b' ∧ I (i + 1) b' s') E s) → (∀ b s, I l.length b s → Q b s) → wpAny M A (forIn l b f) Q E s
  | [], _, b, s, h0, _, hd => by
    rw [List.forIn_nil]
    exact wpAny_pure (hd b s h0)
  | a :: l, I, b, s, h0, hs, hd => by
    rw [List.forIn_cons]
    refine wpAny_bind (wpAny_mono (hs 0 a b s rfl h0) (fun r s' ⟨b', e, h'⟩ => ?_) fun _ _ f => f)
    subst e
    exact wp_forIn l (fun i => I (i + 1)) b' s' h' (fun i a b s ha hi => hs (i + 1) a b s ha hi) fun b s h => hd b s h
end
/-- what is walked: a list, or a tuple, at an address -/
structure Sq where
  l : Bool
  a : Addr
def SqAt (h : Heap) (c : Sq) (xs : Array Value) : Prop := match c.l with | true => h.IsList c.a xs | false => h.IsTuple c.a xs
def ItAt (h : Heap) (c : Sq) (i : Addr) (k : Nat) : Prop := match c.l with | true => h.IsListIter i c.a k | false => h.IsTupleIter i c.a k
abbrev IsRow (h : Heap) (T : Addr) (vs : List Value) : Prop := h.get? T = some { cls := .type "tuple", data := .seq vs.toArray }
theorem SqAt.ext {h g : Heap} {c : Sq} {xs : Array Value} (x : SqAt h c xs) (e : ∀ o, h.get? c.a = some o → g.get? c.a = some o) : SqAt g c xs := by
  obtain ⟨l, a⟩ := c
  cases l with
  | true => obtain ⟨o, ho, r⟩ := (show h.IsList a xs from x); exact ⟨o, e o ho, r⟩
  | false => obtain ⟨o, ho, r⟩ := (show h.IsTuple a xs from x); exact ⟨o, e o ho, r⟩
theorem ItAt.ext {h g : Heap} {c : Sq} {i : Addr} {k : Nat} (x : ItAt h c i k) (e : ∀ o, h.get? i = some o → g.get? i = some o) : ItAt g c i k := by
  obtain ⟨l, a⟩ := c
  cases l with
  | true => obtain ⟨o, ho, r⟩ := (show h.IsListIter i a k from x); exact ⟨o, e o ho, r⟩
  | false => obtain ⟨o, ho, r⟩ := (show h.IsTupleIter i a k from x); exact ⟨o, e o ho, r⟩
theorem ItAt.obj {h : Heap} {c : Sq} {i : Addr} {k : Nat} (x : ItAt h c i k) : ∃ o, h.get? i = some o ∧ ∀ v, o.data ≠ .cell v := by
  obtain ⟨l, a⟩ := c
  cases l with
  | true => obtain ⟨o, ho, _, d⟩ := (show h.IsListIter i a k from x); exact ⟨o, ho, fun v z => by rw [d] at z; cases z⟩
  | false => obtain ⟨o, ho, _, d⟩ := (show h.IsTupleIter i a k from x); exact ⟨o, ho, fun v z => by rw [d] at z; cases z⟩
section
variable {prog : Program} {w : World} {A : Around} {E : Value → Shared → Prop} {s : Shared}
theorem nextS_item {c : Sq} {i : Addr} {k : Nat} {xs : Array Value} {v : Value} {Q : Value → Shared → Prop} (jt : ItAt s.heap c i k) (tt : SqAt s.heap c xs) (hv : xs[k]? = some v)
    (q : ∀ g, ItAt g c i (k + 1) → Heap.SameBut i s.heap g → Q v { s with heap := g }) : wpAny (model prog w) A (Builtin.SmallTypes.nextOf (.ref i)) Q E s := by
  obtain ⟨l, a⟩ := c
  cases l with
  | true => exact wpAny_nextOf_list_item (show s.heap.IsListIter i a k from jt) (show s.heap.IsList a xs from tt) hv fun g h1 h2 => q g h1 h2
  | false => exact nextT_item (show s.heap.IsTupleIter i a k from jt) (show s.heap.IsTuple a xs from tt) hv fun g h1 h2 => q g h1 h2
theorem nextS_end {c : Sq} {i : Addr} {k : Nat} {xs : Array Value} {Q : Value → Shared → Prop} (hh : A.handled = none) (jt : ItAt s.heap c i k) (tt : SqAt s.heap c xs) (hv : xs[k]? = none)
    (q : ∀ g x, Heap.ExtBut i s.heap g → (∃ o, g.get? x = some o ∧ o.cls = .type "StopIteration") → E (.ref x) { s with heap := g }) : wpAny (model prog w) A (Builtin.SmallTypes.nextOf (.ref i)) Q E s := by
  obtain ⟨l, a⟩ := c
  cases l with
  | true => exact wpAny_nextOf_list_end hh (show s.heap.IsListIter i a k from jt) (show s.heap.IsList a xs from tt) hv fun g x h1 h2 => q g x h1 h2
  | false => exact nextT_end hh (show s.heap.IsTupleIter i a k from jt) (show s.heap.IsTuple a xs from tt) hv fun g x h1 h2 => q g x h1 h2
theorem iterS {c : Sq} {xs : Array Value} {Q : Value → Shared → Prop} (tt : SqAt s.heap c xs)
    (q : ∀ g, ItAt g c s.heap.objs.size 0 → g.objs.size = s.heap.objs.size + 1 → (∀ b o, s.heap.get? b = some o → g.get? b = some o) → Q (.ref s.heap.objs.size) { s with heap := g }) : wpAny (model prog w) A (pyIter (.ref c.a)) Q E s := by
  obtain ⟨l, a⟩ := c
  cases l with
  | true => exact wpAny_pyIter_list (show s.heap.IsList a xs from tt) (q _ ⟨_, Heap.get?_push_size _ rfl, rfl, rfl⟩ (Heap.size_push ..) fun b o e => Heap.get?_push_of_some _ e)
  | false => exact wpAny_pyIter_tuple (show s.heap.IsTuple a xs from tt) (q _ ⟨_, Heap.get?_push_size _ rfl, rfl, rfl⟩ (Heap.size_push ..) fun b o e => Heap.get?_push_of_some _ e)
theorem updRow {T : Addr} {vs : List Value} {x : Value} {k : Nat} {Q : Unit → Shared → Prop} (hT : IsRow s.heap T vs) (hz : vs.length ≤ 100)
    (h : ∀ g, IsRow g T (vs.set k x) → Heap.SameBut T s.heap g → Q () { s with heap := g }) : wpAny (model prog w) A (updateSeq T (·.setIfInBounds k x)) Q E s := by
  refine wpAny_updateSeq hT rfl (h _ ?_ (Heap.SameBut.update ..)) (by rw [List.size_toArray]; exact Nat.le_trans hz (by decide)) (by rw [Array.size_setIfInBounds, List.size_toArray]; exact Nat.le_trans hz (by decide))
  show Heap.get? _ T = _
  rw [Heap.get?_update_self _ hT rfl]
  simp [Obj.mapSeq]
/-- the state within a turn, when j of them have been drawn -/
structure ZIn (h g : Heap) (z TI TO : Addr) (cs : List Sq) (is : List Addr) (k j : Nat) (vs old : List Value) : Prop where
  sz : g.objs.size = h.objs.size
  zip : IsZip g z TI TO .ellipsis
  row : IsRow g TO (vs.take j ++ old.drop j)
  its : ∀ (n : Nat) c i, cs[n]? = some c → is[n]? = some i → ItAt g c i (if n < j then k + 1 else k)
  ext : ∀ e o, e ≠ z → e ≠ TO → e ∉ is → h.get? e = some o → g.get? e = some o
structure ZOk (h : Heap) (z TI TO : Addr) (cs : List Sq) (is : List Addr) (k : Nat) (old : List Value) : Prop where
  len : is.length = cs.length
  few : cs.length ≤ 8
  pos : 0 < cs.length
  nod : (z :: TI :: TO :: is).Nodup
  zip : IsZip h z TI TO .none
  ti : IsRow h TI (is.map Value.ref)
  to : IsRow h TO old
  lo : old.length = cs.length
  its : ∀ (n : Nat) c i, cs[n]? = some c → is[n]? = some i → ItAt h c i k
  off : ∀ c ∈ cs, c.a ≠ z ∧ c.a ≠ TO ∧ c.a ∉ is
theorem nod_ne {is : List Addr} {i : Addr} {n j : Nat} {e : Addr} (hn : is.Nodup) (h1 : is[j]? = some i) (h2 : is[n]? = some e) (h : n ≠ j) : e ≠ i := fun z => by
  subst z
  have a := (List.getElem?_eq_some_iff.mp h1)
  have b := (List.getElem?_eq_some_iff.mp h2)
  obtain ⟨ha, ea⟩ := a
  obtain ⟨hb, eb⟩ := b
  exact h ((List.getElem_inj hn).mp (eb.trans ea.symm))
/-- one is drawn -/
theorem ZIn.step {h g : Heap} {z TI TO : Addr} {cs : List Sq} {is : List Addr} {k j : Nat} {vs old : List Value} {i : Addr} {c : Sq} (D : ZOk h z TI TO cs is k old) (Z : ZIn h g z TI TO cs is k j vs old) (hi : is[j]? = some i) (hc : cs[j]? = some c) {g2 g3 : Heap} {v : Value} (hv : vs[j]? = some v) (lv : vs.length = cs.length)
    (n2 : ItAt g2 c i (k + 1)) (s2 : Heap.SameBut i g g2) (r3 : IsRow g3 TO ((vs.take j ++ old.drop j).set j v)) (s3 : Heap.SameBut TO g2 g3) : ZIn h g3 z TI TO cs is k (j + 1) vs old := by
  have nod := D.nod
  rw [List.nodup_cons, List.nodup_cons, List.nodup_cons] at nod
  obtain ⟨nz, nT, nO, ni⟩ := nod
  have mi : i ∈ is := List.mem_of_getElem? hi
  have iz : z ≠ i := fun q => nz (by rw [q]; simp [mi])
  have iO : TO ≠ i := fun q => nO (by rw [q]; exact mi)
  have zO : z ≠ TO := fun q => nz (by rw [q]; simp)
  have jl : j < cs.length := (List.getElem?_eq_some_iff.mp hc).1
  refine ⟨by rw [s3.1, s2.1, Z.sz], s3.extBut _ _ zO (s2.extBut _ _ iz Z.zip), ?_, fun n c' i' hc' hi' => ?_, fun e o e1 e2 e3 q => s3.extBut _ _ e2 (s2.extBut _ _ (fun y => e3 (by rw [y]; exact mi)) (Z.ext e o e1 e2 e3 q))⟩
  · have lo := D.lo
    have e : (vs.take j ++ old.drop j).set j v = vs.take (j + 1) ++ old.drop (j + 1) := by
      have l1 : (vs.take j).length = j := by rw [List.length_take]; omega
      rw [List.set_append, if_neg (by omega), l1, Nat.sub_self, List.drop_eq_getElem_cons (by omega : j < old.length), List.set_cons_zero, List.take_add_one, hv]
      simp
    rw [← e]; exact r3
  · have mi' : i' ∈ is := List.mem_of_getElem? hi'
    have iO' : i' ≠ TO := fun q => nO (by rw [← q]; exact mi')
    by_cases e : n = j
    · subst e
      rw [hi] at hi'; rw [hc] at hc'
      cases hi'; cases hc'
      rw [if_pos (by omega)]
      exact n2.ext fun o q => s3.extBut _ _ iO' q
    · have q := Z.its n c' i' hc' hi'
      have e2 : (if n < j + 1 then k + 1 else k) = (if n < j then k + 1 else k) := by
        by_cases y : n < j
        · rw [if_pos y, if_pos (by omega)]
        · rw [if_neg y, if_neg (by omega)]
      rw [e2]
      exact q.ext fun o r => s3.extBut _ _ iO' (s2.extBut _ _ (nod_ne ni hi hi' e) r)

theorem zipS_go {z TI TO : Addr} {cs : List Sq} {is : List Addr} {k : Nat} {old vs : List Value} {Q : Option Value → Shared → Prop} (D : ZOk s.heap z TI TO cs is k old)
    (hv : ∀ (n : Nat) c, cs[n]? = some c → ∃ xs v, SqAt s.heap c xs ∧ xs[k]? = some v ∧ vs[n]? = some v) (lv : vs.length = cs.length)
    (q : ∀ g, IsZip g z TI TO (rawInt s.heap.objs.size) → IsRow g TO vs → (∀ (n : Nat) c i, cs[n]? = some c → is[n]? = some i → ItAt g c i (k + 1)) → IsRow g s.heap.objs.size vs → g.objs.size = s.heap.objs.size + 1 →
      (∀ e o, e ≠ z → e ≠ TO → e ∉ is → s.heap.get? e = some o → g.get? e = some o) → Q (some (.ref s.heap.objs.size)) { s with heap := g }) : wpAny (model prog w) A (pyNext (.ref z)) Q E s := by
  have hT : s.TypeIs (.ref z) "zip" := ⟨_, D.zip, rfl⟩
  have nod := D.nod
  rw [List.nodup_cons, List.nodup_cons, List.nodup_cons] at nod
  obtain ⟨nz, nT, nO, ni⟩ := nod
  have zO : z ≠ TO := fun q => nz (by rw [q]; simp)
  have few := D.few
  have len := D.len
  unfold pyNext
  refine wpAny_bind (wpAny_attempt (wpAny_callSpecial?_slot (name := Str.ofString "__next__") hT F.slot_zip_next (wpAny_call_entry F.slot_zip_next hT F.entry_zip_next ?_ (F.args_zip_next_1 _))))
  show wpAny _ _ (field (.ref z) 2 >>= _) _ _ s
  refine wpAny_bind (wpAny_field D.zip rfl (x := .bool false) (by rfl) ?_)
  show wpAny _ _ (field (.ref z) 3 >>= _) _ _ s
  refine wpAny_bind (wpAny_field D.zip rfl (x := .ref TI) (by rfl) ?_)
  refine wpAny_bind (wpAny_seqItems D.ti rfl ?_)
  dsimp only
  rw [if_neg (by intro y; rw [Array.isEmpty_iff_size_eq_zero, List.size_toArray, List.length_map, len] at y; have := D.pos; omega)]
  refine wpAny_bind ?_
  unfold Builtin.SmallTypes.ownedTupleIsFree
  refine wpAny_bind (wpAny_field D.zip rfl (x := .none) (by rfl) (wpAny_pure ?_))
  simp only [if_true]
  refine wpAny_bind (wpAny_rule ?_)
  refine wpAny_bind (wpAny_field D.zip rfl (x := .ref TO) (by rfl) ?_)
  refine wpAny_bind (wpAny_setField_rec D.zip (by simp) fun g1 z1 s1 => ?_)
  have z1 : IsZip g1 z TI TO .ellipsis := z1
  refine wpAny_bind ?_
  refine wp_forIn _ (fun j b s' => b = _ ∧ ∃ g, s' = { s with heap := g } ∧ ZIn s.heap g z TI TO cs is k j vs old) _ _ ⟨rfl, g1, rfl, ?_⟩ ?_ ?_
  · refine ⟨s1.1, z1, s1.extBut _ _ zO.symm D.to, fun n c i hc hi => ?_, fun e o e1 _ _ h => s1.extBut _ _ e1 h⟩
    rw [if_neg (by omega)]
    exact (D.its n c i hc hi).ext fun o h => s1.extBut _ _ (fun y => nz (by rw [← y]; simp [List.mem_of_getElem? hi])) h
  · rintro j a b s' ha ⟨rfl, g, rfl, Z⟩
    rw [List.getElem?_zipIdx] at ha
    obtain ⟨x, hx, rfl⟩ := Option.map_eq_some_iff.mp ha
    have hx : (is.map Value.ref)[j]? = some x := by simpa using hx
    rw [List.getElem?_map] at hx
    obtain ⟨i, hi, rfl⟩ := Option.map_eq_some_iff.mp hx
    have jl : j < cs.length := by rw [← len]; exact (List.getElem?_eq_some_iff.mp hi).1
    have hc : cs[j]? = some cs[j] := List.getElem?_eq_getElem jl
    obtain ⟨xs, v, hq, hxv, hvv⟩ := hv j _ hc
    obtain ⟨o1, o2, o3⟩ := D.off _ (List.getElem_mem jl)
    have it := Z.its j _ i hc hi
    rw [if_neg (by omega)] at it
    dsimp only
    refine wpAny_bind (wpAny_onRaise ?_)
    show wpAny _ _ (Builtin.SmallTypes.nextOf (.ref i) >>= _) _ _ _
    refine wpAny_bind (nextS_item it (hq.ext fun o h => Z.ext _ o o1 o2 o3 h) hxv fun g2 n2 s2 => wpAny_pure ?_)
    have iO : TO ≠ i := fun q => nO (by rw [q]; exact List.mem_of_getElem? hi)
    have r2 : IsRow g2 TO (vs.take j ++ old.drop j) := s2.extBut _ _ iO Z.row
    refine wpAny_bind (wpAny_seqItems r2 rfl ?_)
    refine wpAny_bind (updRow (x := v) (k := 0 + j) r2 (by rw [List.length_append, List.length_take, List.length_drop]; have := D.lo; omega) fun g3 r3 s3 => ?_)
    rw [Nat.zero_add] at r3
    refine wpAny_bind (wpAny_letGo (wpAny_pure ⟨_, rfl, rfl, g3, rfl, Z.step D hi hc hvv lv n2 s2 r3 s3⟩))
  · rintro b s' ⟨rfl, g5, rfl, Z⟩
    have ll : ((is.map Value.ref).toArray.toList.zipIdx).length = cs.length := by simp [len]
    rw [ll] at Z
    have z5 := Z.zip
    have o5 : IsRow g5 TO vs := by
      have := Z.row
      rw [← lv, List.take_length, lv, ← D.lo, List.drop_length, List.append_nil] at this
      exact this
    have m5 : ∀ (n : Nat) c i, cs[n]? = some c → is[n]? = some i → ItAt g5 c i (k + 1) := fun n c i hc hi => by
      have := Z.its n c i hc hi
      rw [if_pos (List.getElem?_eq_some_iff.mp hc).1] at this
      exact this
    dsimp only
    refine wpAny_bind (wpAny_seqItems o5 rfl ?_)
    refine wpAny_bind (wpAny_newTuple ?_)
    have zlt : z < g5.objs.size := Heap.lt_size z5
    have sz := Z.sz
    refine wpAny_bind ?_
    unfold Builtin.SmallTypes.ownedTupleHandOut
    have z6 : IsZip (g5.push { cls := .type "tuple", data := .seq vs.toArray }) z TI TO .ellipsis := Heap.get?_push_of_some _ z5
    refine wpAny_bind (wpAny_setField_rec z6 (by simp) fun g7 z7 s7 => ?_)
    have z7 : IsZip g7 z TI TO (rawInt g5.objs.size) := z7
    refine wpAny_setField_rec z7 (by simp) fun g8 z8 s8 => ?_
    have z8 : IsZip g8 z TI TO (rawInt g5.objs.size) := z8
    have up : ∀ e o, e ≠ z → g5.get? e = some o → g8.get? e = some o := fun e o c1 h => s8.extBut _ _ c1 (s7.extBut _ _ c1 (Heap.get?_push_of_some _ h))
    have t8 : IsRow g8 g5.objs.size vs := s8.extBut _ _ (Nat.ne_of_gt zlt) (s7.extBut _ _ (Nat.ne_of_gt zlt) (Heap.get?_push_size _ rfl))
    have sz8 : g8.objs.size = g5.objs.size + 1 := by rw [s8.1, s7.1, Heap.size_push]
    rw [sz] at z8 t8 sz8
    refine wpAny_pure ⟨_, rfl, ?_⟩
    refine wpAny_pure ?_
    show Q (some (.ref g5.objs.size)) _
    rw [sz]
    refine q g8 z8 (up _ _ zO.symm o5) (fun n c i hc hi => (m5 n c i hc hi).ext fun o h => up _ o (fun y => nz (by rw [← y]; simp [List.mem_of_getElem? hi])) h) t8 sz8 fun e o c1 c2 c3 h => up e o c1 (Z.ext e o c1 c2 c3 h)
theorem zipS_stop {z TI TO : Addr} {cs : List Sq} {is : List Addr} {k : Nat} {old vs : List Value} {m : Nat} {cm : Sq} {Q : Option Value → Shared → Prop} (hh : A.handled = none) (D : ZOk s.heap z TI TO cs is k old)
    (hv : ∀ (n : Nat) c, cs[n]? = some c → n < m → ∃ xs v, SqAt s.heap c xs ∧ xs[k]? = some v ∧ vs[n]? = some v) (lv : vs.length = cs.length) (hm : cs[m]? = some cm) {xm : Array Value} (hxm : SqAt s.heap cm xm) (hem : xm[k]? = none)
    (q : ∀ g, (∀ e o, e ≠ z → e ≠ TO → e ∉ is → s.heap.get? e = some o → g.get? e = some o) → Q none { s with heap := g }) : wpAny (model prog w) A (pyNext (.ref z)) Q E s := by
  have hT : s.TypeIs (.ref z) "zip" := ⟨_, D.zip, rfl⟩
  have nod := D.nod
  rw [List.nodup_cons, List.nodup_cons, List.nodup_cons] at nod
  obtain ⟨nz, nT, nO, ni⟩ := nod
  have zO : z ≠ TO := fun q => nz (by rw [q]; simp)
  have few := D.few
  have len := D.len
  have fin : ∀ g x, (∀ e o, e ≠ z → e ≠ TO → e ∉ is → s.heap.get? e = some o → g.get? e = some o) → (∃ o, g.get? x = some o ∧ o.cls = .type "StopIteration") →
      wpAny (model prog w) A (do if ← isInstance (.ref x) (.type "StopIteration") then pure none else throw (.ref x)) Q E { s with heap := g } := fun g x k ⟨o, ho, hc⟩ => by
    refine wpAny_bind (wpAny_isInstance (T := "StopIteration") (b := true) ⟨o, ho, hc⟩ isSubtype_stop ?_)
    exact wpAny_pure (q g k)
  have ml : m < cs.length := (List.getElem?_eq_some_iff.mp hm).1
  unfold pyNext
  refine wpAny_bind (wpAny_attempt (wpAny_callSpecial?_slot (name := Str.ofString "__next__") hT F.slot_zip_next (wpAny_call_entry F.slot_zip_next hT F.entry_zip_next ?_ (F.args_zip_next_1 _))))
  show wpAny _ _ (field (.ref z) 2 >>= _) _ _ s
  refine wpAny_bind (wpAny_field D.zip rfl (x := .bool false) (by rfl) ?_)
  show wpAny _ _ (field (.ref z) 3 >>= _) _ _ s
  refine wpAny_bind (wpAny_field D.zip rfl (x := .ref TI) (by rfl) ?_)
  refine wpAny_bind (wpAny_seqItems D.ti rfl ?_)
  dsimp only
  rw [if_neg (by intro y; rw [Array.isEmpty_iff_size_eq_zero, List.size_toArray, List.length_map, len] at y; have := D.pos; omega)]
  refine wpAny_bind ?_
  unfold Builtin.SmallTypes.ownedTupleIsFree
  refine wpAny_bind (wpAny_field D.zip rfl (x := .none) (by rfl) (wpAny_pure ?_))
  simp only [if_true]
  refine wpAny_bind (wpAny_rule ?_)
  refine wpAny_bind (wpAny_field D.zip rfl (x := .ref TO) (by rfl) ?_)
  refine wpAny_bind (wpAny_setField_rec D.zip (by simp) fun g1 z1 s1 => ?_)
  have z1 : IsZip g1 z TI TO .ellipsis := z1
  refine wpAny_bind ?_
  refine wp_forIn _ (fun j b s' => b = _ ∧ j ≤ m ∧ ∃ g, s' = { s with heap := g } ∧ ZIn s.heap g z TI TO cs is k j vs old) _ _ ⟨rfl, Nat.zero_le _, g1, rfl, ?_⟩ ?_ ?_
  · refine ⟨s1.1, z1, s1.extBut _ _ zO.symm D.to, fun n c i hc hi => ?_, fun e o e1 _ _ h => s1.extBut _ _ e1 h⟩
    rw [if_neg (by omega)]
    exact (D.its n c i hc hi).ext fun o h => s1.extBut _ _ (fun y => nz (by rw [← y]; simp [List.mem_of_getElem? hi])) h
  · rintro j a b s' ha ⟨rfl, jm, g, rfl, Z⟩
    rw [List.getElem?_zipIdx] at ha
    obtain ⟨x, hx, rfl⟩ := Option.map_eq_some_iff.mp ha
    have hx : (is.map Value.ref)[j]? = some x := by simpa using hx
    rw [List.getElem?_map] at hx
    obtain ⟨i, hi, rfl⟩ := Option.map_eq_some_iff.mp hx
    have jl : j < cs.length := by rw [← len]; exact (List.getElem?_eq_some_iff.mp hi).1
    have hc : cs[j]? = some cs[j] := List.getElem?_eq_getElem jl
    obtain ⟨o1, o2, o3⟩ := D.off _ (List.getElem_mem jl)
    have it := Z.its j _ i hc hi
    rw [if_neg (by omega)] at it
    have iO : TO ≠ i := fun q => nO (by rw [q]; exact List.mem_of_getElem? hi)
    have iz : z ≠ i := fun q => nz (by rw [q]; simp [List.mem_of_getElem? hi])
    dsimp only
    refine wpAny_bind (wpAny_onRaise ?_)
    show wpAny _ _ (Builtin.SmallTypes.nextOf (.ref i) >>= _) _ _ _
    by_cases e : j = m
    · subst e
      rw [hc] at hm
      cases hm
      refine wpAny_bind (nextS_end hh it (hxm.ext fun o h => Z.ext _ o o1 o2 o3 h) hem fun g2 x s2 hx2 => ?_)
      obtain ⟨oe, e1, e2⟩ := hx2
      have z2 : IsZip g2 z TI TO .ellipsis := s2 _ _ iz Z.zip
      have xz : x ≠ z := fun r => by subst r; rw [z2] at e1; cases e1; simp at e2
      exact wpAny_setField_rec z2 (by simp) fun g3 _ s3 => fin g3 x (fun e o c1 c2 c3 h => s3.extBut _ _ c1 (s2 _ _ (fun y => c3 (by rw [y]; exact List.mem_of_getElem? hi)) (Z.ext e o c1 c2 c3 h))) ⟨oe, s3.extBut _ _ xz e1, e2⟩
    · obtain ⟨xs, v, hq, hxv, hvv⟩ := hv j _ hc (by omega)
      refine wpAny_bind (nextS_item it (hq.ext fun o h => Z.ext _ o o1 o2 o3 h) hxv fun g2 n2 s2 => wpAny_pure ?_)
      have r2 : IsRow g2 TO (vs.take j ++ old.drop j) := s2.extBut _ _ iO Z.row
      refine wpAny_bind (wpAny_seqItems r2 rfl ?_)
      refine wpAny_bind (updRow (x := v) (k := 0 + j) r2 (by rw [List.length_append, List.length_take, List.length_drop]; have := D.lo; omega) fun g3 r3 s3 => ?_)
      rw [Nat.zero_add] at r3
      refine wpAny_bind (wpAny_letGo (wpAny_pure ⟨_, rfl, rfl, by omega, g3, rfl, Z.step D hi hc hvv lv n2 s2 r3 s3⟩))
  · rintro b s' ⟨rfl, jm, g5, rfl, Z⟩
    have ll : ((is.map Value.ref).toArray.toList.zipIdx).length = cs.length := by simp [len]
    rw [ll] at jm
    omega
end
end L2

/-! zip of any sequences, by the layer. -/
namespace L2
open PySem PySem.Spec PyProof.Rows
theorem choose_list {α : Type} {P : Nat → α → Prop} : ∀ (k : Nat), (∀ n, n < k → ∃ u, P n u) → ∃ us : List α, us.length = k ∧ ∀ (n : Nat) u, us[n]? = some u → P n u
  | 0, _ => ⟨[], rfl, fun n u h => by simp at h⟩
  | k + 1, h => by
    obtain ⟨us, hl, hu⟩ := choose_list k fun n hn => h n (by omega)
    obtain ⟨u, pu⟩ := h k (by omega)
    refine ⟨us ++ [u], by rw [List.length_append, hl]; rfl, fun n v hv => ?_⟩
    by_cases e : n < us.length
    · rw [List.getElem?_append_left e] at hv
      exact hu n v hv
    · rw [List.getElem?_append_right (by omega)] at hv
      have hn : n = us.length := by
        have := (List.getElem?_eq_some_iff.mp hv).1
        simp at this
        omega
      subst hn
      rw [Nat.sub_self] at hv
      cases hv
      rw [hl]; exact pu
theorem vals_of : ∀ {vs : List V} {us : List Value}, vs.length = us.length → (∀ (n : Nat) v u, vs[n]? = some v → us[n]? = some u → RelV v u) → Vals vs us
  | [], [], _, _ => .nil
  | v :: vs, u :: us, hl, h => .cons (h 0 v u rfl rfl) (vals_of (by simpa using hl) fun n v' u' a b => h (n + 1) v' u' a b)
  | [], _ :: _, hl, _ => by simp at hl
  | _ :: _, [], hl, _ => by simp at hl
def HSq (H : Hp) (c : Sq) (xs : List V) : Prop := match c.l with | true => H c.a = some (.lst xs) | false => H c.a = some (.tup xs)
theorem HSq.inj {H : Hp} {c : Sq} {xs ys : List V} (a : HSq H c xs) (b : HSq H c ys) : xs = ys := by
  obtain ⟨l, q⟩ := c
  cases l with
  | true => have a : H q = some (.lst xs) := a; have b : H q = some (.lst ys) := b; rw [a] at b; cases b; rfl
  | false => have a : H q = some (.tup xs) := a; have b : H q = some (.tup ys) := b; rw [a] at b; cases b; rfl
theorem HSq.has {H : Hp} {c : Sq} {xs : List V} (a : HSq H c xs) : ∃ o, H c.a = some o := by
  obtain ⟨l, q⟩ := c
  cases l with
  | true => exact ⟨_, a⟩
  | false => exact ⟨_, a⟩
theorem HSq.at {X : Cx} {pins : List (Addr × Obj)} {σ : St} {H : Hp} {s : Shared} {c : Sq} {xs : List V} (I : Inv X pins σ H s) (h : HSq H c xs) : ∃ its, Vals xs its ∧ SqAt s.heap c its.toArray := by
  obtain ⟨l, q⟩ := c
  cases l with
  | true =>
    obtain ⟨its, r, p, _⟩ := I.list (SqL.of (K := X.K) (show H q = some (.lst xs) from h))
    exact ⟨its, r, p.isList⟩
  | false =>
    obtain ⟨its, r, p, _⟩ := I.tuple (SqT.of (K := X.K) (show H q = some (.tup xs) from h))
    exact ⟨its, r, p⟩
def Itq (cs : List Sq) : It :=
  ⟨fun i H => ∃ vs : List V, vs.length = cs.length ∧ ∀ (n : Nat) c, cs[n]? = some c → ∃ xs x, HSq H c xs ∧ xs[i]? = some x ∧ vs[n]? = some x,
   fun i H v H' => ∃ p vs, H p = none ∧ v = .ref p ∧ H' = upd H p (.tup vs) ∧ vs.length = cs.length ∧ ∀ (n : Nat) c x xs, cs[n]? = some c → HSq H c xs → vs[n]? = some x → xs[i]? = some x,
   fun i H => ∃ m cm xm, cs[m]? = some cm ∧ HSq H cm xm ∧ xm.length ≤ i ∧ ∀ (n : Nat) c, cs[n]? = some c → n < m → ∃ xs x, HSq H c xs ∧ xs[i]? = some x⟩
section
theorem turn_zipS {P : Program} {w : World} {K : PySem.W.Frag} {es : List Expr} {k0} {pos : Pos} {z TI TO : Addr} {cs : List Sq} {is : List Addr} :
    Turn P w K (.Tuple es k0 pos) (Itq cs) (z :: TI :: TO :: is) z (fun i h => ∃ old, ZOk h z TI TO cs is i old) where
  mem := by simp
  obj := fun i h st c hc => by
    obtain ⟨old, D⟩ := st
    simp only [List.mem_cons] at hc
    rcases hc with rfl | rfl | rfl | hc
    · exact ⟨_, D.zip, fun v z => by cases z⟩
    · exact ⟨_, D.ti, fun v z => by cases z⟩
    · exact ⟨_, D.to, fun v z => by cases z⟩
    · obtain ⟨n, hn⟩ := List.getElem?_of_mem hc
      have hl : n < cs.length := by rw [← D.len]; exact (List.getElem?_eq_some_iff.mp hn).1
      exact (D.its n _ c (List.getElem?_eq_getElem hl) hn).obj
  keep := fun i h h' st k => by
    obtain ⟨old, D⟩ := st
    exact ⟨old, D.len, D.few, D.pos, D.nod, k z (by simp) _ D.zip, k TI (by simp) _ D.ti, k TO (by simp) _ D.to, D.lo, fun n c i hc hi => (D.its n c i hc hi).ext fun o e => k i (by simp [List.mem_of_getElem? hi]) o e, D.off⟩
  item := by
    intro X hP hw hK hc i pins s σ H E I hf st hg
    subst hP hw hK
    obtain ⟨old, D⟩ := st
    obtain ⟨vs, lv, hv⟩ := hg
    have nz : ∀ e ∈ z :: TI :: TO :: is, H e = none := fun e he => (hf e he).1
    have hT : H s.heap.objs.size = none := I.fresh
    have ex : ∀ n, n < cs.length → ∃ u : Value, (∀ c, cs[n]? = some c → ∃ xs, SqAt s.heap c xs ∧ xs[i]? = some u) ∧ ∀ v, vs[n]? = some v → RelV v u := fun n hn => by
      obtain ⟨xs, x, h1, h2, h3⟩ := hv n _ (List.getElem?_eq_getElem hn)
      obtain ⟨its, r, p⟩ := h1.at I
      obtain ⟨u, hu, ru⟩ := r.get h2
      refine ⟨u, fun c hc => ?_, fun v hv' => ?_⟩
      · rw [List.getElem?_eq_getElem hn] at hc
        cases hc
        exact ⟨_, p, by simpa using hu⟩
      · rw [h3] at hv'
        cases hv'
        exact ru
    obtain ⟨us, lu, hu⟩ := choose_list cs.length ex
    have hrel : Vals vs us := vals_of (by omega) fun n v u a b => (hu n u b).2 v a
    refine zipS_go D (vs := us) (fun n c hc => ?_) lu fun g z1 to1 m1 tp sz kk => ⟨_, rfl, ?_⟩
    · have hn : n < us.length := by rw [lu]; exact (List.getElem?_eq_some_iff.mp hc).1
      obtain ⟨xs, a, b⟩ := (hu n _ (List.getElem?_eq_getElem hn)).1 c hc
      exact ⟨xs, us[n], a, b, List.getElem?_eq_getElem hn⟩
    refine wpAny_letOwnedTupleGo_zip z1 fun g2 z2 s2 => ?_
    have s2 : Heap.SameBut z g g2 := s2
    have k2 : ∀ e o, e ∉ z :: TO :: is → s.heap.get? e = some o → g2.get? e = some o := fun e o hn h => by
      simp only [List.mem_cons, not_or] at hn
      exact s2.extBut _ _ hn.1 (kk e o hn.1 hn.2.1 hn.2.2 h)
    have zlt : z < s.heap.objs.size := Heap.lt_size D.zip
    have tp2 : IsRow g2 s.heap.objs.size us := s2.extBut _ _ (Nat.ne_of_gt zlt) tp
    have sub : ∀ e ∈ z :: TO :: is, e ∈ z :: TI :: TO :: is := fun e he => by
      simp only [List.mem_cons] at he ⊢
      rcases he with rfl | rfl | he <;> simp [*]
    have trk : ∀ e o, H e = some o → e ∉ z :: TO :: is := fun e o he hm => by rw [nz e (sub e hm)] at he; cases he
    have J : Inv X pins σ (upd H s.heap.objs.size (.tup vs)) { s with heap := g2 } := by
      refine I.turnAll (ch := z :: TO :: is) (fun e he => hf e (sub e he)) k2 (fun e o h => by rw [upd_ne (ne_of_none h hT)]; exact h) (fun e o h n => by rw [upd_ne (Nat.ne_of_lt (Heap.lt_size h))]; exact n) fun e o h => ?_
      by_cases q : e = s.heap.objs.size
      · subst q
        rw [upd_same] at h
        cases h
        exact ⟨by rw [lv]; exact Nat.le_trans D.few (by decide), us, hrel, _, tp2, rfl, rfl, _, rfl⟩
      · rw [upd_ne q] at h
        refine (I.hok e o h).stay (fun c v hc' q' => k2 c v (by
          rcases hc' with z' | z'
          · rw [z']; exact trk e o h
          · exact trk c _ z') q') (fun c q' => by rw [upd_ne (ne_of_none q' hT)]; exact q') fun c xs q' => by rw [upd_ne (ne_of_none q' hT)]; exact q'
    have nod := D.nod
    rw [List.nodup_cons, List.nodup_cons, List.nodup_cons] at nod
    obtain ⟨nz', nT, nO, ni⟩ := nod
    refine ⟨.ref s.heap.objs.size, _, J, rfl, ⟨_, vs, hT, rfl, rfl, lv, fun n c x xs hc hq hx => ?_⟩, ⟨us, D.len, D.few, D.pos, D.nod, z2, ?_, s2.extBut _ _ (fun y => nz' (by rw [← y]; simp)) to1, lu, fun n c j hc hj => ?_, D.off⟩, fun e he => ?_⟩
    · obtain ⟨ys, y, h1, h2, h3⟩ := hv n c hc
      rw [h1.inj hq] at h2
      rw [h3] at hx
      cases hx
      exact h2
    · refine k2 _ _ (fun y => ?_) D.ti
      rcases List.mem_cons.mp y with y | y
      · exact nz' (by rw [← y]; simp)
      · exact nT y
    · exact (m1 n c j hc hj).ext fun o e => s2.extBut _ _ (fun y => nz' (by rw [← y]; simp [List.mem_of_getElem? hj])) e
    · have hlt : e < s.heap.objs.size := by
        simp only [List.mem_cons] at he
        rcases he with rfl | rfl | rfl | he
        · exact Heap.lt_size D.zip
        · exact Heap.lt_size D.ti
        · exact Heap.lt_size D.to
        · obtain ⟨n, hn⟩ := List.getElem?_of_mem he
          have hl : n < cs.length := by rw [← D.len]; exact (List.getElem?_eq_some_iff.mp hn).1
          obtain ⟨o, ho, _⟩ := (D.its n _ e (List.getElem?_eq_getElem hl) hn).obj
          exact Heap.lt_size ho
      rw [upd_ne (Nat.ne_of_lt hlt)]
      exact nz e he
  done := by
    intro X hP hw hK hc i pins s σ H E I hf st hg
    subst hP hw hK
    obtain ⟨old, D⟩ := st
    obtain ⟨m, cm, xm, hm, hxm, hi, hv⟩ := hg
    have nz : ∀ e ∈ z :: TI :: TO :: is, H e = none := fun e he => (hf e he).1
    have ex : ∀ n, n < cs.length → ∃ u : Value, ∀ c, cs[n]? = some c → n < m → ∃ xs, SqAt s.heap c xs ∧ xs[i]? = some u := fun n hn => by
      by_cases e : n < m
      · obtain ⟨xs, x, h1, h2⟩ := hv n _ (List.getElem?_eq_getElem hn) e
        obtain ⟨its, r, p⟩ := h1.at I
        obtain ⟨u, hu, ru⟩ := r.get h2
        refine ⟨u, fun c hc _ => ?_⟩
        rw [List.getElem?_eq_getElem hn] at hc
        cases hc
        exact ⟨_, p, by simpa using hu⟩
      · exact ⟨.none, fun c _ z => absurd z e⟩
    obtain ⟨us, lu, hu⟩ := choose_list cs.length ex
    obtain ⟨its, r, p⟩ := hxm.at I
    have hl := r.length
    refine zipS_stop (I.ok.hd hc) D (vs := us) (m := m) (fun n c hc hn => ?_) lu hm p (by simp; omega) fun g kk => ⟨rfl, ?_⟩
    · have hn' : n < us.length := by rw [lu]; exact (List.getElem?_eq_some_iff.mp hc).1
      obtain ⟨xs, a, b⟩ := hu n _ (List.getElem?_eq_getElem hn') c hc hn
      exact ⟨xs, us[n], a, b, List.getElem?_eq_getElem hn'⟩
    have sub : ∀ e ∈ z :: TO :: is, e ∈ z :: TI :: TO :: is := fun e he => by
      simp only [List.mem_cons] at he ⊢
      rcases he with rfl | rfl | he <;> simp [*]
    have k2 : ∀ e o, e ∉ z :: TO :: is → s.heap.get? e = some o → g.get? e = some o := fun e o hn h => by
      simp only [List.mem_cons, not_or] at hn
      exact kk e o hn.1 hn.2.1 hn.2.2 h
    have trk : ∀ e o, H e = some o → e ∉ z :: TO :: is := fun e o he hm => by rw [nz e (sub e hm)] at he; cases he
    refine I.turnAll (ch := z :: TO :: is) (fun e he => hf e (sub e he)) k2 (fun _ _ h => h) (fun _ _ _ n => n) fun e o h => ?_
    exact (I.hok e o h).stay (fun c v hc' q' => k2 c v (by
      rcases hc' with z' | z'
      · rw [z']; exact trk e o h
      · exact trk c _ z') q') (fun _ q' => q') fun _ _ q' => q'
  self := fun _ _ _ _ _ st h => let ⟨_, D⟩ := st; wpAny_pyIter_zip D.zip h
end
/-- a new zip -/
structure ZNew (h g : Heap) (cs : List Sq) : Prop where
  zip : IsZip g (h.objs.size + cs.length + 2) (h.objs.size + cs.length) (h.objs.size + cs.length + 1) .none
  ti : IsRow g (h.objs.size + cs.length) (((List.range cs.length).map fun j => h.objs.size + j).map Value.ref)
  to : IsRow g (h.objs.size + cs.length + 1) (List.replicate cs.length .none)
  its : ∀ (n : Nat) c, cs[n]? = some c → ItAt g c (h.objs.size + n) 0
  ext : ∀ b o, h.get? b = some o → g.get? b = some o
theorem newClass_zip (vs : List Value) : Builtin.SmallTypes.newClass "zip" ⟨.type "zip" :: vs, []⟩ = pure (.type "zip", vs) := by
  unfold Builtin.SmallTypes.newClass
  simp only [isType, sub_zip, pure_bind, Bool.not_true, Bool.false_eq_true, if_false]
theorem zipS_new (cs : List Sq) (few : cs.length ≤ 8) :
    Meets (Builtin.«zip.__new__» ⟨.type "zip" :: cs.map fun c => Value.ref c.a, []⟩) (fun _ R s => (∀ c ∈ cs, ∃ xs, SqAt s.heap c xs) ∧ ∀ g, ZNew s.heap g cs → R (.ok (.ret (.ref (s.heap.objs.size + cs.length + 2)))) { s with heap := g }) :=
  .of_wp fun prog w A R s h => by
    obtain ⟨h1, h⟩ := h
    unfold Builtin.«zip.__new__»
    refine wpAny_bind (wpAny_of_eq (newClass_zip _) ?_)
    show wpAny _ _ (Builtin.SmallTypes.iterAll (cs.map fun c => Value.ref c.a) >>= _) _ _ _
    refine wpAny_bind ?_
    unfold Builtin.SmallTypes.iterAll
    refine wpAny_bind (wp_forIn _ (fun j its s' => ∃ g, s' = { s with heap := g } ∧ g.objs.size = s.heap.objs.size + j ∧ its = ((List.range j).map fun i => Value.ref (s.heap.objs.size + i)).toArray ∧ (∀ (n : Nat) c, n < j → cs[n]? = some c → ItAt g c (s.heap.objs.size + n) 0) ∧ ∀ b o, s.heap.get? b = some o → g.get? b = some o) _ _ ⟨s.heap, rfl, rfl, rfl, fun n c hn => absurd hn (by omega), fun _ _ e => e⟩ ?_ ?_)
    · rintro j a its s' ha ⟨g, rfl, sz, rfl, hit, ext⟩
      rw [List.getElem?_map] at ha
      obtain ⟨c, hc, rfl⟩ := Option.map_eq_some_iff.mp ha
      obtain ⟨xs, hx⟩ := h1 c (List.mem_of_getElem? hc)
      refine wpAny_bind (wpAny_holding (iterS (c := c) (xs := xs) (hx.ext fun o e => ext _ o e) fun g2 i2 z2 e2 => ?_))
      refine wpAny_pure ⟨_, rfl, g2, rfl, ?_, ?_, fun n c' hn hc' => ?_, fun b o e => e2 b o (ext b o e)⟩
      · show g2.objs.size = _
        rw [z2]; show g.objs.size + 1 = _; rw [sz]; omega
      · show Array.push _ (Value.ref g.objs.size) = _
        rw [sz, List.range_succ, List.map_append]; simp
      · by_cases e : n = j
        · subst e
          rw [hc] at hc'
          cases hc'
          have i2 : ItAt g2 c g.objs.size 0 := i2
          rw [sz] at i2
          exact i2
        · exact (hit n c' (by omega) hc').ext fun o q => e2 _ o q
    · rintro its s' ⟨g, rfl, sz, rfl, hit, ext⟩
      have ll : (cs.map fun c => Value.ref c.a).length = cs.length := List.length_map ..
      rw [ll] at sz hit ⊢
      refine wpAny_pure ?_
      dsimp only
      have n8 : ((List.range cs.length).map fun i => Value.ref (s.heap.objs.size + i)).length ≤ sizeLine := by
        rw [List.length_map, List.length_range]; exact Nat.le_trans few (by decide)
      refine wpAny_bind (wpAny_newTuple ?_ (by simpa using n8))
      refine wpAny_bind (wpAny_newTuple ?_ (by simpa using n8))
      refine wpAny_bind ?_
      unfold Builtin.SmallTypes.newRecord
      refine wpAny_newObj_type (wpAny_pure ⟨_, rfl, ?_⟩) (by show 5 ≤ sizeLine + 2; decide)
      have e1 : (g.push { cls := .type "tuple", data := .seq ((List.range cs.length).map fun i => Value.ref (s.heap.objs.size + i)).toArray }).objs.size = s.heap.objs.size + cs.length + 1 := by rw [Heap.size_push, sz]
      have e2 : ((g.push { cls := .type "tuple", data := .seq ((List.range cs.length).map fun i => Value.ref (s.heap.objs.size + i)).toArray }).push { cls := .type "tuple", data := .seq ((((List.range cs.length).map fun i => Value.ref (s.heap.objs.size + i)).toArray.toList.map fun _ => Value.none)).toArray }).objs.size = s.heap.objs.size + cs.length + 2 := by rw [Heap.size_push, e1]
      have key := h (((g.push { cls := .type "tuple", data := .seq ((List.range cs.length).map fun i => Value.ref (s.heap.objs.size + i)).toArray }).push { cls := .type "tuple", data := .seq ((((List.range cs.length).map fun i => Value.ref (s.heap.objs.size + i)).toArray.toList.map fun _ => Value.none)).toArray }).push { cls := .type "zip", data := .fields #[.none, .bool false, .bool false, .ref (s.heap.objs.size + cs.length), .ref (s.heap.objs.size + cs.length + 1)] })
        ⟨by rw [← e2]; exact Heap.get?_push_size _ rfl, ?_, ?_, fun n c hc => (hit n c (List.getElem?_eq_some_iff.mp hc).1 hc).ext fun o q => Heap.get?_push_of_some _ (Heap.get?_push_of_some _ (Heap.get?_push_of_some _ q)), fun b o q => Heap.get?_push_of_some _ (Heap.get?_push_of_some _ (Heap.get?_push_of_some _ (ext b o q)))⟩
      · rw [← e2] at key
        have e1' : (s.heap.objs.size + cs.length : Nat) = g.objs.size := sz.symm
        rw [← e1, e1'] at key
        exact key
      · have em : (((List.range cs.length).map fun j => s.heap.objs.size + j).map Value.ref) = ((List.range cs.length).map fun i => Value.ref (s.heap.objs.size + i)) := by rw [List.map_map]; rfl
        show Heap.get? _ _ = _
        rw [em, ← sz]
        exact Heap.get?_push_of_some _ (Heap.get?_push_of_some _ (Heap.get?_push_size _ rfl))
      · rw [← e1]
        have er : (((List.range cs.length).map fun i => Value.ref (s.heap.objs.size + i)).toArray.toList.map fun _ => Value.none) = List.replicate cs.length Value.none := by
          rw [List.eq_replicate_iff]
          exact ⟨by simp, fun x hx => by obtain ⟨_, _, rfl⟩ := List.mem_map.mp hx; rfl⟩
        rw [er]
        exact Heap.get?_push_of_some _ (Heap.get?_push_size _ rfl)
section
variable {X : Cx}
theorem zip_walk {pins : List (Addr × Obj)} {σ : St} {H1 : Hp} {s1 : Shared} {es : List Expr} {k0} {pt : Pos} {R : It → Hp → Prop} {E : Value → Shared → Prop} {cs : List Sq} (I1 : Inv X pins σ H1 s1) (few : cs.length ≤ 8) (pos : 0 < cs.length) (hq : ∀ c ∈ cs, ∃ xs, HSq H1 c xs) (q : R (Itq cs) H1) {g : Heap} (Z : ZNew s1.heap g cs) :
    wpAny (model X.prog X.w) X.A (pyIter (.ref (s1.heap.objs.size + cs.length + 2))) (PIE X pins σ (.Tuple es k0 pt) R) E { s1 with heap := g } := by
  have small : ∀ c ∈ cs, c.a < s1.heap.objs.size := fun c hc => by
    obtain ⟨xs, hx⟩ := hq c hc
    obtain ⟨o, ho⟩ := hx.has
    exact Nat.lt_of_not_le fun hge => by rw [I1.hok.fresh hge] at ho; cases ho
  refine wpAny_pyIter_zip Z.zip ⟨_, (s1.heap.objs.size + cs.length + 2) :: (s1.heap.objs.size + cs.length) :: (s1.heap.objs.size + cs.length + 1) :: ((List.range cs.length).map fun j => s1.heap.objs.size + j), _, Itq cs, H1, rfl, I1.kept (t' := s1.toks) Z.ext, turn_zipS, ⟨_, ?_, few, pos, ?_, Z.zip, Z.ti, Z.to, by rw [List.length_replicate], fun n c i hc hi => ?_, fun c hc => ?_⟩, fun e he => ?_, q⟩
  · rw [List.length_map, List.length_range]
  · have nd : ((List.range cs.length).map fun j => s1.heap.objs.size + j).Nodup := by
      rw [List.nodup_iff_pairwise_ne, List.pairwise_map]
      exact (List.nodup_iff_pairwise_ne.mp List.nodup_range).imp fun h e => h (by omega)
    have out : ∀ x, s1.heap.objs.size + cs.length ≤ x → x ∉ ((List.range cs.length).map fun j => s1.heap.objs.size + j) := fun x hx hm => by
      obtain ⟨j, hj, rfl⟩ := List.mem_map.mp hm
      have := List.mem_range.mp hj
      omega
    rw [List.nodup_cons, List.nodup_cons, List.nodup_cons]
    refine ⟨fun h => ?_, fun h => ?_, fun h => out _ (by show @LE.le Nat _ _ _; omega) h, nd⟩
    · rcases List.mem_cons.mp h with h | h
      · have h : @Eq Nat _ _ := h
        omega
      · rcases List.mem_cons.mp h with h | h
        · have h : @Eq Nat _ _ := h
          omega
        · exact out _ (by show @LE.le Nat _ _ _; omega) h
    · rcases List.mem_cons.mp h with h | h
      · have h : @Eq Nat _ _ := h
        omega
      · exact out _ (by show @LE.le Nat _ _ _; omega) h
  · rw [List.getElem?_map, List.getElem?_range (List.getElem?_eq_some_iff.mp hc).1] at hi
    cases hi
    exact Z.its n c hc
  · have := small c hc
    have this : @LT.lt Nat _ c.a s1.heap.objs.size := this
    refine ⟨by show @Ne Nat _ _; omega, by show @Ne Nat _ _; omega, fun hm => ?_⟩
    obtain ⟨j, hj, e⟩ := List.mem_map.mp hm
    have e : @Eq Nat _ _ := e
    omega
  · have hge : s1.heap.objs.size ≤ e := by
      simp only [List.mem_cons] at he
      rcases he with rfl | rfl | rfl | he
      · show @LE.le Nat _ _ _; omega
      · show @LE.le Nat _ _ _; omega
      · show @LE.le Nat _ _ _; omega
      · obtain ⟨j, hj, rfl⟩ := List.mem_map.mp he
        show @LE.le Nat _ _ _; omega
    exact I1.fpOk hge (I1.hok.fresh hge)
def iZip2 (ta : TA) : TI := fun σ H R => ta σ H fun vs H1 => ∃ c1 c2 xs ys, vs = [.ref c1.a, .ref c2.a] ∧ HSq H1 c1 xs ∧ HSq H1 c2 ys ∧ R (Itq [c1, c2]) H1
theorem pi_zip2 {ea eb : Expr} {ta : TA} {p pos : Pos} {es : List Expr} {k0} {pt : Pos} (hg : Gl X "zip") (hm : X.mg "zip" = none) (ha : PA X [ea, eb] ta) (hs : starEach [ea, eb] X.env = [(false, eval ea X.env), (false, eval eb X.env)] := by rfl) (hs2 : starEach [eb] X.env = [(false, eval eb X.env)] := by rfl) :
    PI X (.Tuple es k0 pt) (.Call (.Name "zip" p) [ea, eb] [] pos) (iZip2 ta) := by
  intro pins s σ H R I h
  refine Call_ (ld_blt I hg hm boot_zip (PyProof.Rows.callWith_type1 (thn (ha pos pins s σ H _ I h) fun us s1 ⟨vs, H1, I1, r1, q1⟩ => ?_) (by rw [hs, hs2]) (by rw [hs2]; rfl)))
  obtain ⟨c1, c2, xs, ys, e, h1, h2, q⟩ := q1
  subst e
  obtain ⟨u1, u2, rfl, r2, r3⟩ := vals2 r1
  cases (show u1 = Value.ref c1.a from r2)
  cases (show u2 = Value.ref c2.a from r3)
  obtain ⟨_, _, p1⟩ := h1.at I1
  obtain ⟨_, _, p2⟩ := h2.at I1
  refine callType_new F.called_zip (by decide) (F.typeCall_zip_2 _ _) (F.newCall_zip_2 _ _) (fun obj => F.args_object_init_3 obj _ _) F.entry_zip_new (zipS_new [c1, c2] (by show 2 ≤ 8; decide)) ⟨fun c hc => ?_, fun g Z => ⟨⟨_, Z.zip, rfl⟩, ?_⟩⟩
  · simp only [List.mem_cons, List.not_mem_nil, or_false] at hc
    rcases hc with rfl | rfl
    · exact ⟨_, p1⟩
    · exact ⟨_, p2⟩
  · refine zip_walk (cs := [c1, c2]) I1 (by show 2 ≤ 8; decide) (by show 0 < 2; decide) (fun c hc => ?_) q Z
    simp only [List.mem_cons, List.not_mem_nil, or_false] at hc
    rcases hc with rfl | rfl
    · exact ⟨_, h1⟩
    · exact ⟨_, h2⟩
end
/-- a loop over zip of two that are as long -/
theorem for_zip2 {c1 c2 : Sq} {xs ys : List V} {g : TG} {tb : TS} {D : Ends} {σ : St} {H : Hp} (Pv : Nat → St → Hp → Prop) (h0 : Pv 0 σ H) (hl : ∀ i σ H, i ≤ xs.length → Pv i σ H → HSq H c1 xs ∧ HSq H c2 ys) (hxy : xs.length = ys.length)
    (hs : ∀ i x y p σ H, xs[i]? = some x → ys[i]? = some y → Pv i σ H → H p = none → g (.ref p) σ (upd H p (.tup [x, y])) fun σ2 H2 => tb { D with nx := Pv (i + 1), ct := Pv (i + 1), bk := D.nx } σ2 H2) (hd : ∀ σ H, Pv xs.length σ H → D.nx σ H) :
    ∃ W : Nat → Nat → St → Hp → Prop, (∃ m, W 0 m σ H) ∧ ∀ i m σ H, W i m σ H →
      ((Itq [c1, c2]).stop i H ∧ D.nx σ H) ∨ ((Itq [c1, c2]).go i H ∧ ∃ N : St → Hp → Prop, (∀ σ' H', N σ' H' → ∃ m', m' < m ∧ W (i + 1) m' σ' H') ∧ ∀ x H', (Itq [c1, c2]).yld i H x H' → g x σ H' fun σ2 H2 => tb { D with nx := N, ct := N, bk := D.nx } σ2 H2) := by
  refine ⟨fun i m σ H => i ≤ xs.length ∧ m = xs.length - i ∧ Pv i σ H, ⟨_, Nat.zero_le _, rfl, h0⟩, fun i m σ H ⟨hi, hm, hp⟩ => ?_⟩
  obtain ⟨qa, qb⟩ := hl i σ H hi hp
  by_cases e : i = xs.length
  · subst e
    exact .inl ⟨⟨0, c1, xs, rfl, qa, Nat.le_refl _, fun n c _ hn => absurd hn (by omega)⟩, hd σ H hp⟩
  · have hlt : i < xs.length := Nat.lt_of_le_of_ne hi e
    have hlt2 : i < ys.length := by omega
    refine .inr ⟨⟨[xs[i], ys[i]], rfl, fun n c hc => ?_⟩, Pv (i + 1), fun σ' H' hp' => ⟨xs.length - (i + 1), by omega, by omega, rfl, hp'⟩, fun v H3 hy => ?_⟩
    · match n, hc with
      | 0, hc => cases hc; exact ⟨xs, xs[i], qa, List.getElem?_eq_getElem hlt, rfl⟩
      | 1, hc => cases hc; exact ⟨ys, ys[i], qb, List.getElem?_eq_getElem hlt2, rfl⟩
      | n + 2, hc => simp at hc
    · obtain ⟨p, vs, hn, rfl, rfl, lv, hx⟩ := hy
      match vs, lv, hx with
      | [x, y], _, hx => exact hs i x y p σ H (hx 0 c1 x xs rfl qa rfl) (hx 1 c2 y ys rfl qb rfl) hp hn
end L2

/-! comprehensions over zip of two, be they lists or tuples. -/
namespace L2
open PySem PySem.Spec PyProof.Rows
theorem compT_zip2 {K : PySem.W.Frag} {c1 c2 : Sq} {xs ys : List V} {js : List Nat} {tt : TT} {te : TE} {σ : St} {H : Hp} {Q : VK} (Pv : Nat → List V → Hp → Prop) (h0 : Pv 0 [] H) (hl : ∀ i zs H, i ≤ xs.length → Pv i zs H → HSq H c1 xs ∧ HSq H c2 ys ∧ zs.length ≤ i) (hxy : xs.length = ys.length) (hz : xs.length ≤ sizeLine)
    (hs : ∀ i x y zs p H, xs[i]? = some x → ys[i]? = some y → Pv i zs H → H p = none → tt (some x :: some y :: blockSt σ js) (upd H p (.tup [x, y])) fun b H4 => if b = true then te (some x :: some y :: blockSt σ js) H4 fun y H5 => Pv (i + 1) (zs ++ [y]) H5 else Pv (i + 1) zs H4)
    (hd : ∀ zs H, Pv xs.length zs H → ∀ D, H D = none → Q (.ref D) (upd H D (.lst zs))) : CompWT 2 (gPair K) js tt te σ Q (Itq [c1, c2]) H := by
  refine ⟨fun i m zs H => i ≤ xs.length ∧ m = xs.length - i ∧ Pv i zs H, ⟨_, Nat.zero_le _, rfl, h0⟩, fun i m zs H2 ⟨hi, hm, hp⟩ => ?_⟩
  obtain ⟨qa, qb, hy⟩ := hl i zs H2 hi hp
  by_cases e : i = xs.length
  · subst e
    exact .inl ⟨⟨0, c1, xs, rfl, qa, Nat.le_refl _, fun n c _ hn => absurd hn (by omega)⟩, hd zs H2 hp⟩
  · have hlt : i < xs.length := Nat.lt_of_le_of_ne hi e
    have hlt2 : i < ys.length := by omega
    refine .inr ⟨⟨[xs[i], ys[i]], rfl, fun n c hc => ?_⟩, by omega, Pv (i + 1), fun ys' H' hp' => ⟨xs.length - (i + 1), by omega, by omega, rfl, hp'⟩, fun v H3 hy3 v0 hv0 => ?_⟩
    · match n, hc with
      | 0, hc => cases hc; exact ⟨xs, xs[i], qa, List.getElem?_eq_getElem hlt, rfl⟩
      | 1, hc => cases hc; exact ⟨ys, ys[i], qb, List.getElem?_eq_getElem hlt2, rfl⟩
      | n + 2, hc => simp at hc
    · obtain ⟨p, vs, hn, rfl, rfl, lv, hx⟩ := hy3
      match vs, lv, hx, v0, hv0 with
      | [x, y], _, hx, [v1, v2], _ => exact ⟨p, _, rfl, SqT.of upd_same, rfl, _, _, rfl, _, _, rfl, rfl, ⟨[some x, some y], rfl, rfl⟩, hs i x y zs p H2 (hx 0 c1 x xs rfl qa rfl) (hx 1 c2 y ys rfl qb rfl) hp hn⟩
end L2

/-! list(range(lo, hi)). -/
namespace L2
open PySem PySem.Spec PyProof.Rows
section
variable {X : Cx}
theorem call_rng2 : CallR X (.type "range") (fun xs H Q => ∃ i j : Int, xs = [.int i, .int j] ∧ New H (.rng i j) Q) := by
  intro pins s σ H xs us Q I r h
  obtain ⟨i, j, rfl, q⟩ := h
  obtain ⟨u1, u2, rfl, r1, r2⟩ := vals2 r
  obtain ⟨t1, rfl⟩ := (show ∃ t, u1 = Value.int i t from r1)
  obtain ⟨t2, rfl⟩ := (show ∃ t, u2 = Value.int j t from r2)
  refine call_range_2 ?_
  exact ⟨.ref s.heap.objs.size, _, I.laid (t' := s.toks + 1) (o := .rng i j) (fun _ _ z => Heap.get?_push_of_some _ z) (Nat.le_refl _) ⟨_, _, _, Heap.get?_push_size _ rfl⟩, rfl, q.of _ I.fresh⟩
theorem call_listR2 (hc : X.calm = true) : CallR X (.type "list") (fun xs H Q => ∃ (a : Addr) (lo hi : Int) (n : Nat), xs = [.ref a] ∧ H a = some (.rng lo hi) ∧ hi = lo + (n : Int) ∧ 0 ≤ lo ∧ lo ≤ 1000 ∧ n ≤ 1000 ∧ ∀ l, H l = none → Q (.ref l) (upd H l (.lst ((List.range n).map fun k => V.int (lo + (k : Nat)))))) := by
  intro pins s σ H xs us Q I r h
  obtain ⟨a, lo, hi, n, rfl, ha, e0, lo0, lo1, hn, q⟩ := h
  obtain ⟨u, rfl, ru⟩ := vals1 r
  cases (show u = Value.ref a from ru)
  obtain ⟨t, u, v, hr⟩ := I.hok a _ ha
  have hs : Builtin.Range.rangeSize lo hi 1 = n := by
    unfold Builtin.Range.rangeSize
    rw [if_pos (by decide), e0]
    by_cases h0 : lo < lo + (n : Int)
    · rw [if_pos h0, Int.ediv_one]; omega
    · rw [if_neg h0]; omega
  refine call_list_range (n := n) (I.ok.hd hc) hr (by unfold Builtin.Range.small; rw [hs]; unfold Builtin.Range.rangeFitsLong; simp; omega) hs (by omega) fun h' tk acc c hk hg hi => ?_
  refine ⟨.ref s.heap.objs.size, _, I.laid (t' := tk) (o := .lst ((List.range n).map fun k => V.int (lo + (k : Nat)))) hk (Nat.le_refl _) ⟨?_, acc.toList, c, ?_, ?_⟩, rfl, q _ I.fresh⟩
  · rw [List.length_map, List.length_range]; exact Nat.le_trans hn (by decide)
  · refine vals_at (by rw [List.length_map, List.length_range, Array.length_toList, hi.1]) fun i x hx => ?_
    rw [List.getElem?_map] at hx
    obtain ⟨k, hk2, rfl⟩ := Option.map_eq_some_iff.mp hx
    have hik : i < n := by have := (List.getElem?_eq_some_iff.mp hk2).1; rw [List.length_range] at this; exact this
    rw [List.getElem?_range hik] at hk2
    cases hk2
    have hi2 : i < acc.size := by rw [hi.1]; exact hik
    have e := Array.getElem?_eq_getElem hi2
    obtain ⟨t2, e2⟩ := hi.2 i _ e
    refine ⟨_, by rw [Array.getElem?_toList]; exact e, ⟨t2, ?_⟩⟩
    rw [e2]
    congr 1
    omega
  · rw [Array.toArray_toList]; exact hg
end
end L2

/-! sorting: what the tree of comparisons comes to, where an order answers. -/
namespace L2
open PySem PySem.W PyProof.Rows
/-- the tree walked by an order's answers; all that is asked lies below n -/
def Gd {α : Type} (lt : Nat → Nat → Bool) (n : Nat) : KasT α → (α → Prop) → Prop
  | .ret a, P => P a
  | .ask i j k, P => i < n ∧ j < n ∧ Gd lt n (k (lt i j)) P
structure Ord (lt : Nat → Nat → Bool) (n : Nat) : Prop where
  tot : ∀ i j, i < n → j < n → i ≠ j → lt i j = false → lt j i = true
  tr : ∀ i j k, lt i j = true → lt j k = true → lt i k = true
abbrev gA (p : Array Nat) (i : Nat) : Nat := p.getD i 0
abbrev Pm (n : Nat) (p : Array Nat) : Prop := p.toList.Perm (List.range n)
def SoA (lt : Nat → Nat → Bool) (p : Array Nat) (m : Nat) : Prop := ∀ i j, i < j → j < m → lt (gA p i) (gA p j) = true
def DeA (lt : Nat → Nat → Bool) (p : Array Nat) (m : Nat) : Prop := ∀ i j, i < j → j < m → lt (gA p j) (gA p i) = true
section
variable {lt : Nat → Nat → Bool} {n : Nat}
end
end L2

/-! sorted of a list of whole numbers. -/
namespace L2
open PySem PySem.W PyProof.Rows
theorem sortedHeap_keep {h : Heap} {a : Addr} {vs : List Value} {out : Array Value} {b : Addr} {u : Obj} (hb : b ≠ a) (e : h.get? b = some u) : (sortedHeap h a vs out).get? b = some u := by
  unfold sortedHeap
  rw [Heap.get?_update_ne _ _ _ _ hb]
  exact Heap.get?_push_of_some _ (Heap.get?_push_of_some _ (by rw [Heap.get?_update_ne _ _ _ _ hb]; exact e))
theorem sortedHeap_at {h : Heap} {a : Addr} {vs : List Value} {out : Array Value} {n : Nat} (e : h.get? a = some (seqObj "list" vs.toArray n)) : ∃ c, (sortedHeap h a vs out).get? a = some (seqObj "list" out c) := by
  unfold sortedHeap
  exact ⟨_, get?_update_seq (Heap.get?_push_of_some _ (Heap.get?_push_of_some _ (get?_update_seq e fun _ => #[]))) fun _ => out⟩
section
variable {X : Cx}
end
end L2

/-! what a range holds, collected. -/
namespace L2
open PySem PySem.W PyProof.Rows
section
variable {prog : Program} {w : World} {A : Around} {E : Value → Shared → Prop} {s : Shared}
end
end L2

/-! comprehensions with five names, over a tuple of tuples of five. -/
namespace L2
open PySem PySem.Spec PyProof.Rows
end L2

/-! a tuple's index of a whole number. -/
namespace L2
open PySem PySem.Spec PyProof.Rows
open AutoSeq1 (wpAny_loadPart')
theorem tuple_index_meets (p : Addr) (items : Array Value) (x : Value) (e : Value → Bool) (he : ∀ y, y ∈ items → PySem.MeetsSeq.EqGives y x (e y)) (j : Nat) (hj : j < items.size) (hit : e items[j] = true) (hno : ∀ m (hm : m < items.size), m < j → e items[m] = false) :
    Meets (Builtin.«tuple.index» ⟨[.ref p, x], []⟩) (fun _ R s => IsTup s.heap p items ∧ R (.ok (.ret (.int j s.toks))) { s with toks := s.toks + 1 }) :=
  .of_wp fun prog w A R s h => by
    obtain ⟨hp, g, d, tk, os⟩ := s; obtain ⟨⟨o, ho, hc, n, hd⟩, h⟩ := h
    wp_walk using wpAny_loadPart' ho
    rw [hd]
    refine wpAny_pure (wpAny_pure ?_)
    dsimp only
    refine wpAny_bind (wpAny_pure (wpAny_bind (wpAny_pure (wpAny_bind ?_))))
    rw [Nat.min_self, Std.Legacy.Range.forIn_eq_forIn_range']
    refine wpAny_forIn_list _ (fun l b s' => ∃ k, l = List.range' k (items.size - k) ∧ k ≤ j ∧ b = (none, ()) ∧ s' = ⟨hp, g, d, tk, os⟩) _ ?_ ?_ _ _ ?_
    · rintro i rest b s' ⟨k, hl, hk, rfl, rfl⟩
      have hk2 : items.size - k = (items.size - (k + 1)) + 1 := by omega
      rw [hk2, List.range'_succ] at hl
      injection hl with h1 h2
      subst h1
      have hik : i < items.size := by omega
      rw [Array.getElem?_eq_getElem hik]
      refine wpAny_bind (he _ (Array.getElem_mem hik) prog w _ _ _ _ ?_)
      by_cases hij : i = j
      · subst hij
        rw [hit, if_pos rfl]
        wp_walk
        first | exact ⟨_, rfl, h⟩ | exact h
      · rw [hno i hik (by omega), if_neg Bool.false_ne_true]
        exact wpAny_pure ⟨i + 1, h2, by omega, rfl, rfl⟩
    · rintro b s' ⟨k, hl, hk, rfl, rfl⟩
      have hk2 : items.size - k = (items.size - (k + 1)) + 1 := by omega
      rw [hk2, List.range'_succ] at hl
      cases hl
    · refine ⟨0, ?_, Nat.zero_le _, rfl, rfl⟩
      simp [Std.Legacy.Range.size]
section
variable {X : Cx}
def rIndexT (K : PySem.W.Frag) : V → List V → Hp → VK → Prop := fun x vs H Q => ∃ (p : Addr) (ns : List Int) (k : Int) (i : Nat), x = .ref p ∧ vs = [.int k] ∧ SqT K H p (ns.map V.int) ∧ ns[i]? = some k ∧ (∀ j, j < i → ns[j]? ≠ some k) ∧ Q (.int (i : Nat)) H
theorem mt_indexT : MtM X "tuple.index" (rIndexT X.K) := by
  intro pins s σ H x vs v us Q I rx rv h
  obtain ⟨p, ns, k, i, rfl, rfl, hq, hi, hno, q⟩ := h
  cases (show v = Value.ref p from rx)
  obtain ⟨u, rfl, ru⟩ := rv.one
  obtain ⟨t, rfl⟩ := (show ∃ t, u = Value.int k t from ru)
  obtain ⟨its, r, pl, hz⟩ := I.tuple hq
  have hl : its.length = ns.length := by rw [← r.length, List.length_map]
  have hil : i < ns.length := (List.getElem?_eq_some_iff.mp hi).1
  have at_ : ∀ (m : Nat) (hm : m < its.toArray.size), ∃ tk, its.toArray[m] = Value.int (ns[m]'(by rw [← hl]; simpa using hm)) tk := fun m hm => by
    have hm' : m < ns.length := by rw [← hl]; simpa using hm
    obtain ⟨u, hu, ru⟩ := r.get (i := m) (x := V.int ns[m]) (by rw [List.getElem?_map, List.getElem?_eq_getElem hm']; rfl)
    obtain ⟨tk, rfl⟩ := (show ∃ t, u = Value.int ns[m] t from ru)
    exact ⟨tk, by have := (List.getElem?_eq_some_iff.mp hu).2; simpa using this⟩
  have e0 : ∀ (m : Nat) (hm : m < its.toArray.size), (match its.toArray[m] with | .int y _ => y == k | _ => false) = (ns[m]'(by rw [← hl]; simpa using hm) == k) := fun m hm => by
    obtain ⟨tk, e⟩ := at_ m hm
    rw [e]
  have his : i < its.toArray.size := by rw [List.size_toArray, hl]; exact hil
  refine call_meets F.slot_tuple_index ⟨_, pl.choose_spec.1, pl.choose_spec.2.1⟩ F.entry_tuple_index (F.args_tuple_index_2 _ _) (tuple_index_meets p its.toArray (.int k t) (fun v => match v with | .int y _ => y == k | _ => false) (fun y hy => ?_) i his ?_ (fun m hm hmi => ?_)) ⟨pl, ⟨.int (i : Nat), H, I.tok _, ⟨_, rfl⟩, q⟩⟩
  · obtain ⟨m, hm, rfl⟩ := Array.getElem_of_mem hy
    obtain ⟨tk, e⟩ := at_ m hm
    rw [e]
    exact MeetsSeq.EqGives.int _ _ _ _
  · rw [e0 i his, beq_iff_eq]
    exact (List.getElem?_eq_some_iff.mp hi).2
  · rw [e0 m hm, beq_eq_false_iff_ne]
    have hm' : m < ns.length := by rw [← hl]; simpa using hm
    intro z
    exact hno m hmi (by rw [List.getElem?_eq_getElem hm', z])
/-- a method of a tuple that was made here -/
theorem Inv.tupleN {pins : List (Addr × Obj)} {σ : St} {H : Hp} {s : Shared} {a : Addr} {xs : List V} (I : Inv X pins σ H s) (h : H a = some (.tup xs)) : ∃ its : List Value, Vals xs its ∧ IsTupN s.heap a its.toArray := by
  obtain ⟨z, its, r, p⟩ := I.hok a _ h
  exact ⟨its, r, p⟩
def tBMT (r : V → List V → Hp → VK → Prop) (to : TE) (t : TA) : TE := fun σ H Q => to σ H fun x H1 => (∃ p xs, x = .ref p ∧ H1 p = some (.tup xs)) ∧ t σ H1 fun xs H2 => r x xs H2 Q
theorem pe_bmT {o e : Expr} {es : List Expr} {to : TE} {t : TA} {name : Str} {apos cpos : Pos} {id : String} {r : V → List V → Hp → VK → Prop} (slot : Slot "tuple" name id) (hty : typeOf (.builtin id) = pure (.type "method_descriptor")) (hm : MtR X id r) (ho : PE X o to) (ha : PA X (e :: es) t)
    (hbase : attributeBase o name X.env (eval o X.env) = eval o X.env := by rfl)
    (hfew : ((backTo cpos (starEach (e :: es) X.env)).all (fun x => !x.1) && (backToKw cpos (keywordEach [] X.env)).all (fun x => x.1.isSome) && decide ((e :: es).length + ([] : List Keyword).length + (if ([] : List Keyword).isEmpty then 0 else 1) < 30)) = true := by rfl)
    (hline : (apos.endLine == cpos.line) = true := by rfl) (hs : starEach (e :: es) X.env = (false, eval e X.env) :: starEach es X.env := by rfl) (hplain : (backTo cpos (starEach es X.env)).any (·.1) = false := by rfl) :
    PE X (.Call (.Attribute o name apos) (e :: es) [] cpos) (tBMT r to t) := by
  intro pins s σ H Q I h
  refine wpAny_Call_method_late hbase hfew hline rfl (thn (ho pins s σ H _ I h) fun v s1 ⟨x, H1, I1, r1, ty, q1⟩ => ?_)
  obtain ⟨p, xs, rfl, hp⟩ := ty
  cases (show v = Value.ref p from r1)
  obtain ⟨its, rv, ob, e1, c1, d1, n, dd⟩ := I1.tupleN hp
  refine ⟨"tuple", id, PySem.F.plainAttrs_tuple, slot, hty, ⟨ob, e1, c1⟩, fun a ea => by cases ea; exact ⟨ob, e1, d1⟩, ?_⟩
  have hA := ha cpos pins s1 σ H1 _ I1 q1
  rw [hs] at hA ⊢
  refine Calls.callWith_builtin (by show (false || (backTo cpos (starEach es X.env)).any (·.1)) = false; rw [hplain] <;> rfl) (Calls.evalArgs_plain ?_)
  exact thn hA fun us s2 ⟨vs, H2, I2, r2, q2⟩ => hm pins s2 σ H2 (.ref p) vs (.ref p) us Q I2 r1 r2 q2
end
end L2

/-! sorted of a tuple of whole numbers; tuple(range(n)). -/
namespace L2
open PySem PySem.W PyProof.Rows
section
variable {prog : Program} {w : World} {A : Around} {E : Value → Shared → Prop} {s : Shared}
theorem sorted_tup {l : Addr} {vs : List Value} {ns : List Int} {Q : Value → Shared → Prop} (hl : IsTup s.heap l vs.toArray) (hI : IntsAre vs ns) (h64 : vs.length < 64)
    (h : ∀ (g : Heap) (out : Array Value) (ns' : List Int), (∀ b o, s.heap.get? b = some o → g.get? b = some o) → IntsAre out.toList ns' → ns'.Perm ns → ns'.Pairwise (· ≤ ·) → Q (.ref g.objs.size) { s with heap := sortedHeap (g.push (seqObj "list" vs.toArray 0)) g.objs.size vs out }) :
    wpAny (model prog w) A (call (.builtin "sorted") [.ref l]) Q E s := by
  obtain ⟨ob, ho, hc, n, hd⟩ := hl
  refine Calls.call_function_entry kind_sorted plain_sorted entry_sorted (args_sorted1 _) ?_
  unfold Builtin.«sorted»
  refine wpAny_bind (m := checkCount "sorted" 1 1 _) (wpAny_pure ?_)
  refine wpAny_bind (wpAny_collect_seq l (.inr rfl) ho hc hd (fun g hk => ?_) (by rw [List.size_toArray, sizeLine_eq]; omega))
  rw [show vs.toArray.toList = vs by simp]
  refine wpAny_bind (wpAny_newList ?_ (by rw [sizeLine_eq]; omega))
  have hoL : (g.push (seqObj "list" vs.toArray 0)).get? g.objs.size = some (seqObj "list" vs.toArray 0) := Heap.get?_push_size _ rfl
  show wpAny _ _ _ _ _ { s with heap := g.push (seqObj "list" vs.toArray 0) }
  refine wpAny_bind (wpAny_holding (wpAny_call_entry slot_list_sort ⟨_, hoL, rfl⟩ entry_list_sort (list_sort_tree hoL hI h64 fun out ns' a1 a2 a3 => ⟨_, rfl, ?_⟩) (args_list_sort _)))
  exact wpAny_pure ⟨_, rfl, h g out ns' hk a1 a2 a3⟩
end
section
variable {X : Cx}
theorem call_sortedT : CallR X (.builtin "sorted") (fun xs H Q => ∃ (p : Addr) (ns : List Int), xs = [.ref p] ∧ SqT X.K H p (ns.map V.int) ∧ ns.length < 64 ∧ ∀ (l : Addr) (ns' : List Int), H l = none → ns'.Perm ns → ns'.Pairwise (· ≤ ·) → Q (.ref l) (upd H l (.lst (ns'.map V.int)))) := by
  intro pins s σ H xs us Q I r h
  obtain ⟨p, ns, rfl, hq, hn, q⟩ := h
  obtain ⟨u, rfl, ru⟩ := vals1 r
  cases (show u = Value.ref p from ru)
  obtain ⟨its, rv, pl, hz⟩ := I.tuple hq
  have hl : its.length = ns.length := by rw [← rv.length, List.length_map]
  refine sorted_tup pl (ints_are rv) (by omega) fun g out ns' hk a1 a2 a3 => ?_
  have I1 : Inv X pins σ H { s with heap := g } := I.kept (t' := s.toks) hk
  obtain ⟨c, hc⟩ := sortedHeap_at (h := g.push (seqObj "list" its.toArray 0)) (a := g.objs.size) (vs := its) (out := out) (n := 0) (Heap.get?_push_size _ rfl)
  refine ⟨.ref g.objs.size, _, I1.laid (o := .lst (ns'.map V.int)) (t' := s.toks) (fun b u e => sortedHeap_keep (Nat.ne_of_lt (Heap.lt_size e)) (Heap.get?_push_of_some _ e)) (Nat.le_refl _) ⟨?_, out.toList, c, vals_ints a1, ?_⟩, rfl, q _ ns' (I1.hok.fresh (Nat.le_refl _)) a2 a3⟩
  · rw [List.length_map, a2.length_eq]; exact Nat.le_trans (by omega : ns.length ≤ 1000) (by decide)
  · rw [Array.toArray_toList]; exact hc
end
end L2

/-! nets and tables mirrored: the mathematics and the promises. -/
namespace HN
open PySem L2 PyProof.Rows
theorem netP_keepM {H H' : Hp} {v : V} {b m : Int} {sp : List Sn} (e : TupK H H') (h : IsD H v (netP b m sp)) : IsD H' v (netP b m sp) := by
  obtain ⟨t, xs, rfl, ht, rx⟩ := h.tup_of
  cases rx with
  | cons h0 r0 =>
    cases r0 with
    | cons h1 r1 =>
      cases r1 with
      | cons h2 r2 =>
        cases r2
        cases h0
        cases h1
        obtain ⟨p, ys, rfl, hp, ry⟩ := h2.tup_of
        exact .tup (e _ _ ht) (.cons (.int _) (.cons (.int _) (.cons (.tup (e _ _ hp) (rows_keep (f := Sn.row) (xs := sp) e ry)) .nil)))
/-! ### mirrored -/
def mirS (x : Sn) : Sn := ⟨x.g, x.s, x.l, x.o, x.w⟩
def mirT (b : Int) (ts : List Int) : List Int := ts.map fun t => (-t) % b
theorem mirT_len (b : Int) (ts : List Int) : (mirT b ts).length = ts.length := by unfold mirT; rw [List.length_map]
theorem tm_mir {b : Int} {ts : List Int} {i : Int} (h0 : 0 ≤ i) (h1 : i < ts.length) : tm (mirT b ts) i = (-(tm ts i)) % b := by
  have hi : i.toNat < ts.length := by omega
  unfold tm mirT
  rw [List.getD_eq_getElem?_getD, List.getD_eq_getElem?_getD, List.getElem?_map, List.getElem?_eq_getElem hi]
  rfl
theorem waitM_mir {b : Int} {ts : List Int} {sp : List Sn} (R : Rdy b ts sp) : ∀ x ∈ sp, waitM b (mirT b ts) (mirS x) = waitM b ts x := fun x hx => by
  obtain ⟨s0, s1, g0, g1⟩ := R.ends x hx
  show (tm (mirT b ts) x.s - tm (mirT b ts) x.g - x.l) % b = (tm ts x.g - tm ts x.s - x.l) % b
  rw [tm_mir s0 s1, tm_mir g0 g1, rest_two]
  congr 1
  omega
/-! ### all true -/
/-! ### promises -/
def spMirS : Sp := fun vs H Q _ => ∃ (q : Addr) (x : Sn), vs = [.ref q] ∧ H q = some (.tup (x.row.map V.int)) ∧ ∀ p H', Same H H' → H' p = some (.tup ((mirS x).row.map V.int)) → Q (.ref p) H'
def spMir : Sp := fun vs H Q _ => ∃ (v : V) (b m : Int) (sp : List Sn), vs = [v] ∧ IsD H v (netP b m sp) ∧ sp.length ≤ 1000 ∧ ∀ u H', Same H H' → IsD H' u (netP b m (sp.map mirS)) → Q u H'
def spTabMir : Sp := fun vs H Q _ => ∃ (t u : Addr) (b : Int) (rest : List V) (ns : List Int), vs = [.ref t, .ref u] ∧ H t = some (.tup (.int b :: rest)) ∧ H u = some (.tup (ns.map V.int)) ∧ 0 < b ∧ ns.length ≤ 1000 ∧ ∀ p H', Same H H' → H' p = some (.tup ((mirT b ns).map V.int)) → Q (.ref p) H'
def spWaitsN : Sp := fun vs H Q _ => ∃ (v : V) (u : Addr) (b m : Int) (sp : List Sn) (ts : List Int), vs = [v, .ref u] ∧ IsD H v (netP b m sp) ∧ H u = some (.tup (ts.map V.int)) ∧ Rdy b ts sp ∧ ∀ p H', Same H H' → H' p = some (.lst ((waitsM b ts sp).map V.int)) → Q (.ref p) H'
def spDrawnT : Sp := fun vs H Q _ => ∃ (p t : Addr) (b m : Int) (rest : List V), vs = [.ref p, .ref t] ∧ Dk p H ∧ H t = some (.tup (.int b :: .int m :: rest)) ∧ 1 ≤ b ∧ b < 10 ^ 61 ∧ 0 ≤ m ∧ m ≤ 16 ∧ ∀ (u : Addr) (ts : List Int) (H' : Hp), Md p H H' → H' u = some (.tup (ts.map V.int)) → (ts.length : Int) = m → (∀ x ∈ ts, 0 ≤ x ∧ x < b) → Q (.ref u) H'
end HN

/-! nets side by side: the mathematics and the promises. -/
namespace HN
open PySem L2 PyProof.Rows
def namS (js : List Int) (x : Sn) : Sn := ⟨tm js x.s, tm js x.g, x.l, x.o, x.w⟩
def sideS (k : Int) (x : Sn) : Sn := ⟨x.s + k, x.g + k, x.l, x.o, x.w⟩
def runL (k : Int) (n : Nat) : List Int := (List.range n).map fun (i : Nat) => k + (i : Int)
theorem runL_len (k : Int) (n : Nat) : (runL k n).length = n := by unfold runL; rw [List.length_map, List.length_range]
theorem tm_run {k i : Int} {n : Nat} (h0 : 0 ≤ i) (h1 : i < n) : tm (runL k n) i = i + k := by
  have hi : i.toNat < n := by omega
  unfold tm runL
  rw [List.getD_eq_getElem?_getD, List.getElem?_map, List.getElem?_range hi]
  show k + ((i.toNat : Nat) : Int) = i + k
  omega
theorem namS_run {k : Int} {n : Nat} {x : Sn} (s0 : 0 ≤ x.s) (s1 : x.s < n) (g0 : 0 ≤ x.g) (g1 : x.g < n) : namS (runL k n) x = sideS k x := by
  unfold namS sideS
  rw [tm_run s0 s1, tm_run g0 g1]
theorem tm_left {t1 t2 : List Int} {i : Int} (h0 : 0 ≤ i) (h1 : i < t1.length) : tm (t1 ++ t2) i = tm t1 i := by
  unfold tm
  rw [List.getD_eq_getElem?_getD, List.getD_eq_getElem?_getD, List.getElem?_append_left (by omega)]
theorem waitM_left {b : Int} {t1 t2 : List Int} {sp : List Sn} (R : Rdy b t1 sp) : ∀ x ∈ sp, waitM b (t1 ++ t2) x = waitM b t1 x := fun x hx => by
  obtain ⟨s0, s1, g0, g1⟩ := R.ends x hx
  unfold waitM
  rw [tm_left s0 s1, tm_left g0 g1]
theorem any_same {α : Type} {p q : α → Bool} : ∀ (l : List α), (∀ x ∈ l, p x = q x) → l.any p = l.any q
  | [], _ => rfl
  | x :: l, h => by
    rw [List.any_cons, List.any_cons, h x (by simp), any_same l fun y hy => h y (List.mem_cons_of_mem _ hy)]
/-! ### promises -/
def spNamed : Sp := fun vs H Q _ => ∃ (q L : Addr) (x : Sn) (js : List Int), vs = [.ref q, .ref L] ∧ H q = some (.tup (x.row.map V.int)) ∧ H L = some (.lst (js.map V.int)) ∧ 0 ≤ x.s ∧ x.s < js.length ∧ 0 ≤ x.g ∧ x.g < js.length ∧ ∀ p H', Same H H' → H' p = some (.tup ((namS js x).row.map V.int)) → Q (.ref p) H'
structure Sides (b m1 m2 : Int) (sp1 sp2 : List Sn) : Prop where
  N1 : NetT b m1 sp1
  N2 : NetT b m2 sp2
  m : m1 + m2 ≤ 16
  few : sp1.length + sp2.length ≤ 40
def spSide : Sp := fun vs H Q _ => ∃ (v1 v2 : V) (b m1 m2 : Int) (sp1 sp2 : List Sn), vs = [v1, v2] ∧ IsD H v1 (netP b m1 sp1) ∧ IsD H v2 (netP b m2 sp2) ∧ Sides b m1 m2 sp1 sp2 ∧ ∀ u H', Same H H' → IsD H' u (netP b (m1 + m2) (sp1 ++ sp2.map (sideS m1))) → Q u H'
def TabsL (H : Hp) (b m : Int) (us : List V) : Prop := ∀ u ∈ us, ∃ (q : Addr) (ts : List Int), u = .ref q ∧ H q = some (.tup (ts.map V.int)) ∧ (ts.length : Int) = m
end HN

/-! nets and tables stretched: the mathematics and the promises. -/
namespace HN
open PySem L2 PyProof.Rows
def strS (n : Int) (x : Sn) : Sn := ⟨x.s, x.g, x.l * n, x.o * n, x.w⟩
def strT (n : Int) (ts : List Int) : List Int := ts.map fun t => t * n
theorem strT_len (n : Int) (ts : List Int) : (strT n ts).length = ts.length := by unfold strT; rw [List.length_map]
theorem tm_str {n : Int} {ts : List Int} {i : Int} (h0 : 0 ≤ i) (h1 : i < ts.length) : tm (strT n ts) i = tm ts i * n := by
  have hi : i.toNat < ts.length := by omega
  unfold tm strT
  rw [List.getD_eq_getElem?_getD, List.getD_eq_getElem?_getD, List.getElem?_map, List.getElem?_eq_getElem hi]
  rfl
theorem waitM_str {b n : Int} {ts : List Int} {sp : List Sn} (hn : 0 < n) (R : Rdy b ts sp) : ∀ x ∈ sp, waitM (b * n) (strT n ts) (strS n x) = waitM b ts x * n := fun x hx => by
  obtain ⟨s0, s1, g0, g1⟩ := R.ends x hx
  show (tm (strT n ts) x.g - tm (strT n ts) x.s - x.l * n) % (b * n) = (tm ts x.g - tm ts x.s - x.l) % b * n
  rw [tm_str s0 s1, tm_str g0 g1, ← Int.sub_mul, ← Int.sub_mul, Int.mul_comm _ n, Int.mul_comm b n, Int.mul_comm _ n, Int.mul_emod_mul_of_pos _ _ hn]
theorem brk_str {b n : Int} {ts : List Int} {sp : List Sn} (hn : 0 < n) (R : Rdy b ts sp) : ∀ x ∈ sp, brk (b * n) (strT n ts) (strS n x) = brk b ts x := fun x hx => by
  unfold brk
  rw [waitM_str hn R x hx]
  show decide (x.o * n - x.l * n < waitM b ts x * n) = decide (x.o - x.l < waitM b ts x)
  rw [← Int.sub_mul]
  exact decide_eq_decide.mpr ⟨fun h => Int.lt_of_mul_lt_mul_right h (by omega), fun h => Int.mul_lt_mul_of_pos_right h hn⟩
theorem fitsM_str {b n : Int} {ts : List Int} {sp : List Sn} (hn : 0 < n) (R : Rdy b ts sp) : fitsM (b * n) (strT n ts) (sp.map (strS n)) = fitsM b ts sp := by
  unfold fitsM
  congr 1
  rw [List.any_map, Bool.eq_iff_iff, List.any_eq_true, List.any_eq_true]
  constructor
  · rintro ⟨x, hx, h⟩
    exact ⟨x, hx, (brk_str hn R x hx).symm.trans h⟩
  · rintro ⟨x, hx, h⟩
    exact ⟨x, hx, (brk_str hn R x hx).trans h⟩
theorem sum_str {b n : Int} {ts : List Int} (hn : 0 < n) : ∀ (sp : List Sn), (∀ x ∈ sp, waitM (b * n) (strT n ts) (strS n x) = waitM b ts x * n) → waitOfM (b * n) (strT n ts) (sp.map (strS n)) = waitOfM b ts sp * n
  | [], _ => by show (0 : Int) = 0 * n; rw [Int.zero_mul]
  | x :: sp, h => by
    have e := sum_str hn sp fun y hy => h y (List.mem_cons_of_mem _ hy)
    unfold waitOfM at e ⊢
    rw [List.map_cons, List.map_cons, List.map_cons, List.sum_cons, List.sum_cons, e, Int.add_mul, h x (by simp)]
    show x.w * (waitM b ts x * n) + _ = x.w * waitM b ts x * n + _
    rw [Int.mul_assoc]
theorem waitOfM_str {b n : Int} {ts : List Int} {sp : List Sn} (hn : 0 < n) (R : Rdy b ts sp) : waitOfM (b * n) (strT n ts) (sp.map (strS n)) = waitOfM b ts sp * n := sum_str hn sp (waitM_str hn R)
def spStrS : Sp := fun vs H Q _ => ∃ (q : Addr) (x : Sn) (n : Int), vs = [.ref q, .int n] ∧ H q = some (.tup (x.row.map V.int)) ∧ 0 < n ∧ n < 2 ^ 60 ∧ ∀ p H', Same H H' → H' p = some (.tup ((strS n x).row.map V.int)) → Q (.ref p) H'
def spStr : Sp := fun vs H Q _ => ∃ (v : V) (b m : Int) (sp : List Sn) (n : Int), vs = [v, .int n] ∧ IsD H v (netP b m sp) ∧ sp.length ≤ 1000 ∧ 0 < n ∧ n < 2 ^ 60 ∧ ∀ u H', Same H H' → IsD H' u (netP (b * n) m (sp.map (strS n))) → Q u H'
def spTabStr : Sp := fun vs H Q _ => ∃ (u : Addr) (ns : List Int) (n : Int), vs = [.ref u, .int n] ∧ H u = some (.tup (ns.map V.int)) ∧ 0 < n ∧ n < 2 ^ 60 ∧ ns.length ≤ 1000 ∧ ∀ p H', Same H H' → H' p = some (.tup ((strT n ns).map V.int)) → Q (.ref p) H'
end HN

/-! orders: the mathematics and the promises. -/
namespace HN
open PySem L2 PyProof.Rows
theorem pop_perm {α : Type} : ∀ (l : List α) (i : Nat) (x : α), l[i]? = some x → (x :: l.eraseIdx i).Perm l
  | [], _, _, h => by simp at h
  | a :: l, 0, x, h => by cases h; exact List.Perm.refl _
  | a :: l, i + 1, x, h => by
    have h := pop_perm l i x h
    show (x :: a :: l.eraseIdx i).Perm (a :: l)
    exact (List.Perm.swap a x _).trans (h.cons a)
def rgI (n : Nat) : List Int := (List.range n).map fun (k : Nat) => (k : Int)
theorem rgI_len (n : Nat) : (rgI n).length = n := by unfold rgI; rw [List.length_map, List.length_range]
theorem rgI_at {n i : Nat} (h : i < n) : (rgI n)[i]? = some (i : Int) := by unfold rgI; rw [List.getElem?_map, List.getElem?_range h]; rfl
theorem rgI_mem {n : Nat} {a : Int} : a ∈ rgI n ↔ 0 ≤ a ∧ a < n := by
  unfold rgI
  rw [List.mem_map]
  constructor
  · rintro ⟨k, hk, rfl⟩
    have := List.mem_range.mp hk
    omega
  · rintro ⟨h0, h1⟩
    exact ⟨a.toNat, List.mem_range.mpr (by omega), by omega⟩
theorem rgI_nodup (n : Nat) : (rgI n).Nodup := List.pairwise_map.mpr (List.pairwise_lt_range.imp fun h => by omega)
theorem rgI_le (n : Nat) : (rgI n).Pairwise (· ≤ ·) := List.pairwise_map.mpr (List.pairwise_lt_range.imp fun h => by omega)
abbrev Ord (os : List Int) (n : Nat) : Prop := os.Perm (rgI n)
theorem sorted_ord {os ns : List Int} {n : Nat} (h : Ord os n) (p : ns.Perm os) (s : ns.Pairwise (· ≤ ·)) : ns = rgI n :=
  List.Perm.eq_of_pairwise (fun a b _ _ h1 h2 => Int.le_antisymm h1 h2) s (rgI_le n) (p.trans h)
section
variable {os : List Int} {n : Nat}
theorem Ord.len (h : Ord os n) : os.length = n := by rw [List.Perm.length_eq h, rgI_len]
theorem Ord.nodup (h : Ord os n) : os.Nodup := (List.Perm.nodup_iff h).mpr (rgI_nodup n)
theorem Ord.mem (h : Ord os n) {a : Int} : a ∈ os ↔ 0 ≤ a ∧ a < n := (List.Perm.mem_iff h).trans rgI_mem
def posI (os : List Int) (k : Int) : Int := ((os.idxOf k : Nat) : Int)
def posL (os : List Int) (n : Nat) : List Int := (rgI n).map (posI os)
theorem posL_len (os : List Int) (n : Nat) : (posL os n).length = n := by unfold posL; rw [List.length_map, rgI_len]
theorem posL_tm (os : List Int) {i : Int} (h0 : 0 ≤ i) (h1 : i < n) : tm (posL os n) i = posI os i := by
  have hi : i.toNat < n := by omega
  have e : ((i.toNat : Nat) : Int) = i := by omega
  unfold tm posL
  rw [List.getD_eq_getElem?_getD, List.getElem?_map, rgI_at hi, e]; rfl
theorem Ord.lt (h : Ord os n) {k : Int} (h0 : 0 ≤ k) (h1 : k < n) : os.idxOf k < os.length := List.idxOf_lt_length_iff.mpr (h.mem.mpr ⟨h0, h1⟩)
theorem Ord.at (h : Ord os n) {k : Int} (h0 : 0 ≤ k) (h1 : k < n) : os[os.idxOf k]? = some k := by
  rw [List.getElem?_eq_getElem (h.lt h0 h1), List.getElem_idxOf]
theorem Ord.first (h : Ord os n) {k : Int} {j : Nat} (hj : j < os.idxOf k) : os[j]? ≠ some k := fun e => by
  obtain ⟨hl, e2⟩ := List.getElem?_eq_some_iff.mp e
  have := h.nodup.idxOf_getElem j hl
  rw [e2] at this
  omega
theorem Ord.pos_in (h : Ord os n) {k : Int} (h0 : 0 ≤ k) (h1 : k < n) : 0 ≤ posI os k ∧ posI os k < n := by
  have := h.lt h0 h1
  rw [h.len] at this
  unfold posI
  omega
theorem Ord.tmpos (h : Ord os n) {k : Int} (h0 : 0 ≤ k) (h1 : k < n) : tm os (posI os k) = k := by
  unfold tm posI
  rw [Int.toNat_natCast, List.getD_eq_getElem?_getD, h.at h0 h1]; rfl
theorem Ord.tm_in (h : Ord os n) {i : Int} (h0 : 0 ≤ i) (h1 : i < n) : 0 ≤ tm os i ∧ tm os i < n := by
  have hi : i.toNat < os.length := by rw [h.len]; omega
  have e : tm os i = os[i.toNat] := by unfold tm; rw [List.getD_eq_getElem?_getD, List.getElem?_eq_getElem hi]; rfl
  rw [e]
  exact h.mem.mp (List.getElem_mem hi)
theorem Ord.postm (h : Ord os n) {i : Int} (h0 : 0 ≤ i) (h1 : i < n) : posI os (tm os i) = i := by
  have hi : i.toNat < os.length := by rw [h.len]; omega
  have e : tm os i = os[i.toNat] := by unfold tm; rw [List.getD_eq_getElem?_getD, List.getElem?_eq_getElem hi]; rfl
  rw [e]
  unfold posI
  rw [h.nodup.idxOf_getElem i.toNat hi]
  omega
theorem Ord.back (h : Ord os n) : Ord (posL os n) n := by
  refine (List.perm_ext_iff_of_nodup ?_ (rgI_nodup n)).mpr fun a => ?_
  · refine List.pairwise_map.mpr ((rgI_nodup n).imp_of_mem fun {a b} ha hb hne e => hne ?_)
    obtain ⟨a0, a1⟩ := rgI_mem.mp ha
    obtain ⟨b0, b1⟩ := rgI_mem.mp hb
    rw [← h.tmpos a0 a1, e, h.tmpos b0 b1]
  · rw [rgI_mem]
    constructor
    · intro ha
      obtain ⟨k, hk, rfl⟩ := List.mem_map.mp ha
      obtain ⟨k0, k1⟩ := rgI_mem.mp hk
      exact h.pos_in k0 k1
    · rintro ⟨h0, h1⟩
      exact List.mem_map.mpr ⟨tm os a, rgI_mem.mpr (h.tm_in h0 h1), h.postm h0 h1⟩
end
/-- all ends are happenings -/
def EndsIn (n : Nat) (sp : List Sn) : Prop := ∀ x ∈ sp, 0 ≤ x.s ∧ x.s < n ∧ 0 ≤ x.g ∧ x.g < n
def permT (ts os : List Int) : List Int := os.map (tm ts)
theorem permT_len (ts os : List Int) : (permT ts os).length = os.length := by unfold permT; rw [List.length_map]
theorem tm_perm {os : List Int} {n : Nat} (h : Ord os n) (ts : List Int) {k : Int} (h0 : 0 ≤ k) (h1 : k < n) : tm (permT ts os) (posI os k) = tm ts k := by
  unfold permT posI
  show (os.map (tm ts)).getD ((os.idxOf k : Nat) : Int).toNat 0 = tm ts k
  rw [Int.toNat_natCast, List.getD_eq_getElem?_getD, List.getElem?_map, h.at h0 h1]; rfl
theorem waitM_nam {os ts : List Int} {n : Nat} {sp : List Sn} {b : Int} (h : Ord os n) (hs : EndsIn n sp) : ∀ x ∈ sp, waitM b (permT ts os) (namS (posL os n) x) = waitM b ts x := fun x hx => by
  obtain ⟨s0, s1, g0, g1⟩ := hs x hx
  show (tm (permT ts os) (tm (posL os n) x.g) - tm (permT ts os) (tm (posL os n) x.s) - x.l) % b = waitM b ts x
  rw [posL_tm _ s0 s1, posL_tm _ g0 g1, tm_perm h ts s0 s1, tm_perm h ts g0 g1]; rfl
/-! ### promises -/
def OrdAt (H : Hp) (t u : Addr) (n : Nat) (os : List Int) : Prop := (∃ (b : Int) (rest : List V), H t = some (.tup (.int b :: .int (n : Int) :: rest))) ∧ H u = some (.tup (os.map V.int)) ∧ Ord os n ∧ n ≤ 16
def spIsOrder : Sp := fun vs H Q _ => ∃ (t u : Addr) (n : Nat) (os : List Int), vs = [.ref t, .ref u] ∧ OrdAt H t u n os ∧ ∀ H', Same H H' → Q (.bl true) H'
def spCheckO : Sp := fun vs H Q _ => ∃ (t u : Addr) (n : Nat) (os : List Int), vs = [.ref t, .ref u] ∧ OrdAt H t u n os ∧ ∀ H', Same H H' → Q .non H'
def spNamedA : Sp := fun vs H Q _ => ∃ (v : V) (u : Addr) (b : Int) (n : Nat) (sp : List Sn) (os : List Int), vs = [v, .ref u] ∧ IsD H v (netP b (n : Int) sp) ∧ H u = some (.tup (os.map V.int)) ∧ Ord os n ∧ n ≤ 16 ∧ EndsIn n sp ∧ sp.length ≤ 1000 ∧ ∀ w H', Same H H' → IsD H' w (netP b (n : Int) (sp.map (namS (posL os n)))) → Q w H'
def spTabNam : Sp := fun vs H Q _ => ∃ (t u1 u2 : Addr) (n : Nat) (ts os : List Int), vs = [.ref t, .ref u1, .ref u2] ∧ OrdAt H t u2 n os ∧ H u1 = some (.tup (ts.map V.int)) ∧ ts.length = n ∧ ∀ p H', Same H H' → H' p = some (.tup ((permT ts os).map V.int)) → Q (.ref p) H'
def spOrderL : Sp := fun vs H Q _ => ∃ (p : Addr) (n : Nat), vs = [.ref p, .int (n : Int)] ∧ Dk p H ∧ n ≤ 16 ∧ ∀ (u : Addr) (os : List Int) (H' : Hp), Md p H H' → H' u = some (.tup (os.map V.int)) → Ord os n → Q (.ref u) H'
end HN

/-! moves one behind another: the mathematics and the promises. -/
namespace HN
open PySem L2 PyProof.Rows
/-- spans changed so that lengths, weights and waits stand -/
theorem fitsM_as {b b' : Int} {ts ts' : List Int} {F : Sn → Sn} {sp : List Sn} (h : ∀ x ∈ sp, waitM b' ts' (F x) = waitM b ts x) (ho : ∀ x, (F x).o - (F x).l = x.o - x.l) : fitsM b' ts' (sp.map F) = fitsM b ts sp := by
  unfold fitsM
  rw [List.any_map]
  congr 1
  refine any_same _ fun x hx => ?_
  show decide ((F x).o - (F x).l < waitM b' ts' (F x)) = decide (x.o - x.l < waitM b ts x)
  rw [h x hx, ho]
theorem waitOfM_as {b b' : Int} {ts ts' : List Int} {F : Sn → Sn} {sp : List Sn} (h : ∀ x ∈ sp, waitM b' ts' (F x) = waitM b ts x) (hw : ∀ x, (F x).w = x.w) : waitOfM b' ts' (sp.map F) = waitOfM b ts sp := by
  unfold waitOfM
  rw [List.map_map]
  congr 1
  refine List.map_congr_left fun x hx => ?_
  show (F x).w * waitM b' ts' (F x) = x.w * waitM b ts x
  rw [h x hx, hw]
def TabV (b : Int) (n : Nat) (ts : List Int) : Prop := ts.length = n ∧ ∀ t ∈ ts, 0 ≤ t ∧ t < b
structure NetW (b : Int) (n : Nat) (sp : List Sn) (i : Nat) : Prop where
  N : NetT b (n : Int) sp
  cb : b ≤ 10 ^ 33 * 9 ^ i
  co : ∀ x ∈ sp, x.o < 10 ^ 45 * 9 ^ i
theorem nine {i : Nat} (h : i ≤ 6) : (9 : Int) ^ i ≤ 531441 := by
  match i, h with
  | 0, _ => decide
  | 1, _ => decide
  | 2, _ => decide
  | 3, _ => decide
  | 4, _ => decide
  | 5, _ => decide
  | 6, _ => decide
theorem NetW.up {b : Int} {n : Nat} {sp : List Sn} {i : Nat} (W : NetW b n sp i) : NetW b n sp (i + 1) := by
  have p : (0 : Int) < 9 ^ i := Int.pow_pos (by decide)
  have e : (9 : Int) ^ (i + 1) = 9 ^ i * 9 := Int.pow_succ ..
  refine ⟨W.N, Int.le_trans W.cb (by rw [e]; omega), fun x hx => Int.lt_of_lt_of_le (W.co x hx) (by rw [e]; omega)⟩
theorem NetT.mir {b m : Int} {sp : List Sn} (N : NetT b m sp) : NetT b m (sp.map mirS) := ⟨N.b1, N.b2, N.m1, N.m2, by rw [List.length_map]; exact N.few, fun x hx => by
  obtain ⟨y, hy, rfl⟩ := List.mem_map.mp hx
  have k := N.all y hy
  exact ⟨k.g0, k.g1, k.s0, k.s1, fun z => k.ne z.symm, k.l0, k.lo, k.ob, k.o60, k.w0, k.w1⟩⟩
theorem NetW.mir {b : Int} {n : Nat} {sp : List Sn} {i : Nat} (W : NetW b n sp i) : NetW b n (sp.map mirS) (i + 1) := ⟨W.N.mir, W.up.cb, fun x hx => by
  obtain ⟨y, hy, rfl⟩ := List.mem_map.mp hx
  exact W.up.co y hy⟩
theorem NetT.nam {b : Int} {n : Nat} {sp : List Sn} {os : List Int} (N : NetT b (n : Int) sp) (h : Ord os n) : NetT b (n : Int) (sp.map (namS (posL os n))) := ⟨N.b1, N.b2, N.m1, N.m2, by rw [List.length_map]; exact N.few, fun x hx => by
  obtain ⟨y, hy, rfl⟩ := List.mem_map.mp hx
  have k := N.all y hy
  have a := h.back.tm_in k.s0 k.s1
  have c := h.back.tm_in k.g0 k.g1
  refine ⟨a.1, a.2, c.1, c.2, fun z => k.ne ?_, k.l0, k.lo, k.ob, k.o60, k.w0, k.w1⟩
  have z : tm (posL os n) y.s = tm (posL os n) y.g := z
  rw [← h.back.postm k.s0 k.s1, z, h.back.postm k.g0 k.g1]⟩
theorem NetW.nam {b : Int} {n : Nat} {sp : List Sn} {os : List Int} {i : Nat} (W : NetW b n sp i) (h : Ord os n) : NetW b n (sp.map (namS (posL os n))) (i + 1) := ⟨W.N.nam h, W.up.cb, fun x hx => by
  obtain ⟨y, hy, rfl⟩ := List.mem_map.mp hx
  exact W.up.co y hy⟩
theorem NetW.str {b : Int} {n : Nat} {sp : List Sn} {i : Nat} {c : Int} (W : NetW b n sp i) (hi : i ≤ 5) (c1 : 1 ≤ c) (c9 : c ≤ 9) : NetW (b * c) n (sp.map (strS c)) (i + 1) := by
  have e : (9 : Int) ^ (i + 1) = 9 ^ i * 9 := Int.pow_succ ..
  have n9 := nine (i := i + 1) (by omega)
  have b1 := W.N.b1
  have hb : b * c ≤ 10 ^ 33 * 9 ^ (i + 1) := by
    rw [e, ← Int.mul_assoc]
    exact Int.mul_le_mul W.cb c9 (by omega) (Int.le_trans (by omega) W.cb)
  have ho : ∀ x ∈ sp, x.o * c < 10 ^ 45 * 9 ^ (i + 1) := fun x hx => by
    rw [e, ← Int.mul_assoc]
    have k := W.N.all x hx
    have o0 : 0 ≤ x.o := Int.le_trans k.l0 k.lo
    have h1 := W.co x hx
    exact Int.lt_of_le_of_lt (Int.mul_le_mul_of_nonneg_left c9 o0) (Int.mul_lt_mul_of_pos_right h1 (by decide))
  refine ⟨⟨?_, ?_, W.N.m1, W.N.m2, by rw [List.length_map]; exact W.N.few, fun x hx => ?_⟩, hb, fun x hx => ?_⟩
  · have := Int.mul_le_mul b1 c1 (by decide) (by omega)
    omega
  · refine Int.le_trans hb (Int.le_trans (Int.mul_le_mul_of_nonneg_left n9 (by decide)) (by decide))
  · obtain ⟨y, hy, rfl⟩ := List.mem_map.mp hx
    have k := W.N.all y hy
    refine ⟨k.s0, k.s1, k.g0, k.g1, k.ne, Int.mul_nonneg k.l0 (by omega), Int.mul_le_mul_of_nonneg_right k.lo (by omega), ?_, ?_, k.w0, k.w1⟩
    · show y.o * c < y.l * c + b * c
      rw [← Int.add_mul]
      exact Int.mul_lt_mul_of_pos_right k.ob (by omega)
    · refine Int.lt_of_lt_of_le (ho y hy) (Int.le_trans (Int.mul_le_mul_of_nonneg_left n9 (by decide)) (by decide))
  · obtain ⟨y, hy, rfl⟩ := List.mem_map.mp hx
    exact ho y hy
theorem NetT.one {b : Int} {n : Nat} {sp : List Sn} (N : NetT b (n : Int) sp) (hn : n < 16) : NetT b ((n + 1 : Nat) : Int) sp := ⟨N.b1, N.b2, by omega, by omega, N.few, fun x hx => by
  have k := N.all x hx
  exact ⟨k.s0, by have := k.s1; omega, k.g0, by have := k.g1; omega, k.ne, k.l0, k.lo, k.ob, k.o60, k.w0, k.w1⟩⟩
theorem NetW.one {b : Int} {n : Nat} {sp : List Sn} {i : Nat} (W : NetW b n sp i) (hn : n < 16) : NetW b (n + 1) sp (i + 1) := ⟨W.N.one hn, W.up.cb, W.up.co⟩
theorem NetT.rdyV {b : Int} {n : Nat} {sp : List Sn} {ts : List Int} (N : NetT b (n : Int) sp) (h : TabV b n ts) : Rdy b ts sp := N.rdy (by rw [h.1])
theorem NetT.endsIn {b : Int} {n : Nat} {sp : List Sn} (N : NetT b (n : Int) sp) : EndsIn n sp := fun x hx => by
  have k := N.all x hx
  exact ⟨k.s0, k.s1, k.g0, k.g1⟩
/-- two tables, told anew: it fits and waits so -/
structure Kept (b : Int) (ts : List Int) (sp : List Sn) (b' : Int) (ts' : List Int) (sp' : List Sn) (c : Int) : Prop where
  f : fitsM b' ts' sp' = fitsM b ts sp
  w : waitOfM b' ts' sp' = waitOfM b ts sp * c
theorem Kept.mir {b : Int} {n : Nat} {ts : List Int} {sp : List Sn} (N : NetT b (n : Int) sp) (h : TabV b n ts) : Kept b ts sp b (mirT b ts) (sp.map mirS) 1 :=
  ⟨fitsM_as (waitM_mir (N.rdyV h)) fun _ => rfl, by rw [Int.mul_one]; exact waitOfM_as (waitM_mir (N.rdyV h)) fun _ => rfl⟩
theorem Kept.nam {b : Int} {n : Nat} {ts os : List Int} {sp : List Sn} (N : NetT b (n : Int) sp) (ho : Ord os n) : Kept b ts sp b (permT ts os) (sp.map (namS (posL os n))) 1 :=
  ⟨fitsM_as (waitM_nam ho N.endsIn) fun _ => rfl, by rw [Int.mul_one]; exact waitOfM_as (waitM_nam ho N.endsIn) fun _ => rfl⟩
theorem Kept.str {b : Int} {n : Nat} {ts : List Int} {sp : List Sn} {c : Int} (N : NetT b (n : Int) sp) (h : TabV b n ts) (hc : 0 < c) : Kept b ts sp (b * c) (strT c ts) (sp.map (strS c)) c :=
  ⟨fitsM_str hc (N.rdyV h), waitOfM_str hc (N.rdyV h)⟩
theorem Kept.one {b : Int} {n : Nat} {ts : List Int} {sp : List Sn} {t : Int} (N : NetT b (n : Int) sp) (h : TabV b n ts) : Kept b ts sp b (ts ++ [t]) sp 1 := by
  have e : sp = sp.map id := (List.map_id sp).symm
  have k : ∀ x ∈ sp, waitM b (ts ++ [t]) (id x) = waitM b ts x := waitM_left (N.rdyV h)
  refine ⟨?_, ?_⟩
  · conv => lhs; rw [e]
    exact fitsM_as k fun _ => rfl
  · rw [Int.mul_one]
    conv => lhs; rw [e]
    exact waitOfM_as k fun _ => rfl
theorem TabV.mir {b : Int} {n : Nat} {ts : List Int} (hb : 0 < b) (h : TabV b n ts) : TabV b n (mirT b ts) := ⟨by rw [mirT_len]; exact h.1, fun t ht => by
  obtain ⟨x, _, rfl⟩ := List.mem_map.mp ht
  exact ⟨Int.emod_nonneg _ (by omega), Int.emod_lt_of_pos _ hb⟩⟩
theorem TabV.nam {b : Int} {n : Nat} {ts os : List Int} (h : TabV b n ts) (ho : Ord os n) : TabV b n (permT ts os) := ⟨by rw [permT_len, ho.len], fun t ht => by
  obtain ⟨x, hx, rfl⟩ := List.mem_map.mp ht
  obtain ⟨h0, h1⟩ := ho.mem.mp hx
  exact tm_in h.2 h0 (by rw [h.1]; exact h1)⟩
theorem TabV.str {b : Int} {n : Nat} {ts : List Int} {c : Int} (h : TabV b n ts) (hc : 0 < c) : TabV (b * c) n (strT c ts) := ⟨by rw [strT_len]; exact h.1, fun t ht => by
  obtain ⟨x, hx, rfl⟩ := List.mem_map.mp ht
  obtain ⟨h0, h1⟩ := h.2 x hx
  exact ⟨Int.mul_nonneg h0 (by omega), Int.mul_lt_mul_of_pos_right h1 hc⟩⟩
theorem TabV.one {b : Int} {n : Nat} {ts : List Int} {t : Int} (h : TabV b n ts) (t0 : 0 ≤ t) (t1 : t < b) : TabV b (n + 1) (ts ++ [t]) := ⟨by rw [List.length_append, h.1]; rfl, fun x hx => by
  rcases List.mem_append.mp hx with hx | hx
  · exact h.2 x hx
  · rw [List.mem_singleton.mp hx]; exact ⟨t0, t1⟩⟩
/-! ### two tables in a list -/
def TwoT (H : Hp) (L : Addr) (t0 t1 : List Int) : Prop := ∃ u0 u1, H L = some (.lst [.ref u0, .ref u1]) ∧ H u0 = some (.tup (t0.map V.int)) ∧ H u1 = some (.tup (t1.map V.int))
theorem TwoT.same {H H' : Hp} {L : Addr} {t0 t1 : List Int} (h : TwoT H L t0 t1) (e : Same H H') : TwoT H' L t0 t1 := let ⟨u0, u1, a, b, c⟩ := h; ⟨u0, u1, e _ _ a, e _ _ b, e _ _ c⟩
theorem TwoT.ne {H : Hp} {L p : Addr} {t0 t1 : List Int} (h : TwoT H L t0 t1) (hp : Dk p H) : L ≠ p := fun z => by
  obtain ⟨u0, u1, a, _⟩ := h
  obtain ⟨k, ns, e, _⟩ := hp
  rw [z, e] at a
  cases a
theorem TwoT.md {H H' : Hp} {L p : Addr} {t0 t1 : List Int} (h : TwoT H L t0 t1) (hp : Dk p H) (M : Md p H H') : TwoT H' L t0 t1 := by
  have hne := h.ne hp
  obtain ⟨u0, u1, a, b, c⟩ := h
  exact ⟨u0, u1, M.at a hne, Md.tupK hp M _ _ b, Md.tupK hp M _ _ c⟩
theorem comp_two {K : PySem.W.Frag} {L : Addr} {t0 t1 : List Int} {js : List Nat} {te : TE} {σ : L2.St} {H : Hp} {Q : VK} (F : List Int → List Int) (h : TwoT H L t0 t1)
    (step : ∀ u t H1 (R : VK), Same H H1 → H1 u = some (.tup (t.map V.int)) → (t = t0 ∨ t = t1) → (∀ q H2, Same H1 H2 → H2 q = some (.tup ((F t).map V.int)) → R (.ref q) H2) → te (some (.ref u) :: blockSt σ js) H1 R)
    (k : ∀ D H', Same H H' → TwoT H' D (F t0) (F t1) → Q (.ref D) H') : CompW js tNoIf te σ Q (Itl K L) H := by
  obtain ⟨u0, u1, hL, h0, h1⟩ := h
  refine comp_list (K := K) (a := L) (xs := [.ref u0, .ref u1]) (fun i zs H' => Same H H' ∧ match i with | 0 => zs = [] | 1 => ∃ q, zs = [.ref q] ∧ H' q = some (.tup ((F t0).map V.int)) | _ => ∃ q q', zs = [.ref q, .ref q'] ∧ H' q = some (.tup ((F t0).map V.int)) ∧ H' q' = some (.tup ((F t1).map V.int))) ⟨Same.refl H, rfl⟩ (fun i zs H' hi ⟨S, e⟩ => ⟨SqL.of (S _ _ hL), ?_⟩) (by show 2 ≤ sizeLine; decide) (fun i x zs H' hx ⟨S, e⟩ => ?_) (fun zs H' ⟨S, e⟩ D hD => ?_)
  · match i, hi, e with
    | 0, _, e => rw [e]; exact Nat.le_refl _
    | 1, _, ⟨q, e, _⟩ => rw [e]; exact Nat.le_refl _
    | 2, _, ⟨q, q', e, _⟩ => rw [e]; exact Nat.le_refl _
  · match i, hx, e with
    | 0, hx, e =>
      cases hx
      refine tNoIf_go (step u0 t0 H' _ S (S _ _ h0) (.inl rfl) fun q H2 S2 h2 => ⟨S.trans S2, q, by rw [e]; rfl, h2⟩)
    | 1, hx, ⟨q, e, hq⟩ =>
      cases hx
      refine tNoIf_go (step u1 t1 H' _ S (S _ _ h1) (.inr rfl) fun q' H2 S2 h2 => ⟨S.trans S2, q, q', by rw [e]; rfl, S2 _ _ hq, h2⟩)
    | (j + 2), hx, _ => simp at hx
  · obtain ⟨q, q', e, hq, hq'⟩ : ∃ q q', zs = [.ref q, .ref q'] ∧ H' q = some (.tup ((F t0).map V.int)) ∧ H' q' = some (.tup ((F t1).map V.int)) := e
    subst e
    have S2 : Same H' (upd H' D (.lst [.ref q, .ref q'])) := Same.put (Same.refl H') hD
    exact k D _ (S.trans S2) ⟨q, q', upd_same, S2 _ _ hq, S2 _ _ hq'⟩
/-! ### promises -/
structure MvIn (H : Hp) (v : V) (L : Addr) (b : Int) (n : Nat) (sp : List Sn) (t0 t1 : List Int) (i : Nat) : Prop where
  d : IsD H v (netP b (n : Int) sp)
  W : NetW b n sp i
  two : TwoT H L t0 t1
  T0 : TabV b n t0
  T1 : TabV b n t1
def spMovedL : Sp := fun vs H Q _ => ∃ (p L : Addr) (v : V) (b : Int) (n : Nat) (sp : List Sn) (t0 t1 : List Int) (i : Nat), vs = [.ref p, v, .ref L] ∧ Dk p H ∧ MvIn H v L b n sp t0 t1 i ∧ i ≤ 5 ∧
  ∀ (q : Addr) (v' : V) (L' : Addr) (c b' : Int) (n' : Nat) (sp' : List Sn) (t0' t1' : List Int) (H' : Hp), Md p H H' → H' q = some (.tup [v', .ref L', .int c]) → MvIn H' v' L' b' n' sp' t0' t1' (i + 1) → 1 ≤ c → c ≤ 9 → Kept b t0 sp b' t0' sp' c → Kept b t1 sp b' t1' sp' c → Q (.ref q) H'
def SnF (b m : Int) (x : Sn) : Prop := SnOk b m x ∧ x.o < 10 ^ 45
def spSpanF : Sp := fun vs H Q _ => ∃ (p h : Addr) (b m : Int) (hs : List Int) (k : Bool), vs = [.ref p, .int b, .int m, .ref h, .bl k] ∧ Dk p H ∧ 1 ≤ b ∧ b ≤ 10 ^ 33 ∧ 2 ≤ m ∧ m ≤ 16 ∧ H h = some (.tup (hs.map V.int)) ∧ (hs.length : Int) = m ∧
  ∀ t (z : Sn) H', Md p H H' → H' t = some (.tup (z.row.map V.int)) → SnF b m z → Q (.ref t) H'
def spNetF : Sp := fun vs H Q _ => ∃ (p : Addr) (a c s g : Int), vs = [.ref p, .int a, .int c, .int s, .int g] ∧ Dk p H ∧ 1 ≤ a ∧ a ≤ 16 ∧ 1 ≤ c ∧ c ≤ 100 ∧ 0 ≤ s ∧ s ≤ 40 ∧ 1 ≤ g ∧ g ≤ 10 ^ 30 ∧
  ∀ (t : Addr) (v : V) (h : Addr) (b m : Int) (sp : List Sn) (hs : List Int) (H' : Hp), Md p H H' → H' t = some (.tup [v, .ref h]) → IsD H' v (netP b m sp) → NetT b m sp → b ≤ 10 ^ 33 → H' h = some (.tup (hs.map V.int)) → (hs.length : Int) = m → (∀ x ∈ hs, 0 ≤ x ∧ x < b) → (∀ x ∈ sp, x.o < 10 ^ 45) → Q (.ref t) H'
theorem Below.tup {Pr : V → Prop} {H : Hp} {p : Addr} {xs : List V} (h : H p = some (.tup xs)) (hx : ∀ x ∈ xs, Pr x) : Below Pr H (.ref p) :=
  ⟨⟨"tuple", by simp only [tyn]; rw [h]⟩, fun a ys e ha x hm => by cases e; rw [h] at ha; cases ha; exact hx x hm⟩
theorem Below.int {Pr : V → Prop} {H : Hp} (i : Int) : Below Pr H (.int i) := ⟨⟨"int", rfl⟩, fun a ys e => by cases e⟩
theorem Kn.int {H : Hp} (i : Int) : Kn H (.int i) := ⟨"int", rfl⟩
/-- a net is told as one -/
theorem netP_isNet {H : Hp} {v : V} {b m : Int} {sp : List Sn} (h : IsD H v (netP b m sp)) (N : NetT b m sp) : G3 H v ∧ netOk H v = true := by
  obtain ⟨t, p, ys, rfl, ht, hp, hl, hy⟩ := netP_of h
  have at_ : ∀ y ∈ ys, ∃ (q : Addr) (x : Sn), y = .ref q ∧ x ∈ sp ∧ H q = some (.tup [.int x.s, .int x.g, .int x.l, .int x.o, .int x.w]) := fun y hy' => by
    obtain ⟨i, hi⟩ := List.getElem?_of_mem hy'
    have hi' : i < sp.length := by rw [← hl]; exact (List.getElem?_eq_some_iff.mp hi).1
    obtain ⟨q, e, hq⟩ := hy i sp[i] (List.getElem?_eq_getElem hi')
    rw [hi] at e
    cases e
    exact ⟨q, sp[i], rfl, List.getElem_mem hi', hq⟩
  refine ⟨?_, ?_⟩
  · refine Below.tup ht fun x hx => ?_
    simp only [List.mem_cons, List.not_mem_nil, or_false] at hx
    rcases hx with rfl | rfl | rfl
    · exact Below.int b
    · exact Below.int m
    · refine Below.tup hp fun y hy' => ?_
      obtain ⟨q, x, rfl, _, hq⟩ := at_ y hy'
      refine Below.tup hq fun z hz => ?_
      simp only [List.mem_cons, List.not_mem_nil, or_false] at hz
      rcases hz with rfl | rfl | rfl | rfl | rfl <;> exact Kn.int _
  · have b1 := N.b1
    have b2 := N.b2
    have m1 := N.m1
    have m2 := N.m2
    have few := N.few
    have inn : ∀ i lo hi : Int, lo ≤ i → i ≤ hi → inI (.int i) lo hi = true := fun i lo hi h1 h2 => by
      show (decide (lo ≤ i) && decide (i ≤ hi)) = true
      rw [decide_eq_true h1, decide_eq_true h2]; rfl
    unfold netOk
    simp only [ht]
    unfold spansOk
    simp only [hp]
    rw [inn b 1 B60 b1 (by unfold B60; omega), inn m 1 16 m1 m2, hl, decide_eq_true few, Bool.true_and, Bool.true_and, Bool.true_and, List.all_eq_true]
    intro y hy'
    obtain ⟨q, x, rfl, hx, hq⟩ := at_ y hy'
    have k := N.all x hx
    have l0 := k.l0
    have lo := k.lo
    have ob := k.ob
    have o60 := k.o60
    unfold spanOk
    simp only [hq]
    show (endsB m (.int x.s) (.int x.g) && (lensB b (.int x.l) (.int x.o) && inI (.int x.w) 0 1000000000000)) = true
    have e1 : endsB m (.int x.s) (.int x.g) = true := by
      unfold endsB
      have s1 := k.s1
      have g1 := k.g1
      rw [inn x.s 0 (m - 1) k.s0 (by omega), inn x.g 0 (m - 1) k.g0 (by omega), decide_eq_false (fun z => k.ne (by injection z))]; rfl
    have e2 : lensB b (.int x.l) (.int x.o) = true := by
      show (inI (.int x.l) 0 B60 && inI (.int x.o) x.l (if B60 < x.l + b - 1 then B60 else x.l + b - 1)) = true
      rw [inn x.l 0 B60 l0 (by unfold B60; omega), inn x.o x.l _ lo (by split <;> (unfold B60 at *; omega))]; rfl
    rw [e1, e2, inn x.w 0 1000000000000 k.w0 k.w1]; rfl
end HN

/-! spans put behind a net's own: the promise. -/
namespace HN
open PySem L2 PyProof.Rows
theorem netP_rows {H : Hp} {v : V} {b m : Int} {sp : List Sn} (h : IsD H v (netP b m sp)) : ∃ t p ys, v = .ref t ∧ H t = some (.tup [.int b, .int m, .ref p]) ∧ H p = some (.tup ys) ∧ IsDs H ys (rowsD Sn.row sp) := by
  obtain ⟨t, xs, rfl, ht, rx⟩ := h.tup_of
  cases rx with
  | cons h0 r0 =>
    cases r0 with
    | cons h1 r1 =>
      cases r1 with
      | cons h2 r2 =>
        cases r2
        cases h0
        cases h1
        obtain ⟨p, ys, rfl, hp, ry⟩ := h2.tup_of
        exact ⟨t, p, ys, rfl, ht, hp, ry⟩
def spWithSp : Sp := fun vs H Q _ => ∃ (v : V) (L : Addr) (b m : Int) (sp more : List Sn) (zs : List V), vs = [v, .ref L] ∧ IsD H v (netP b m sp) ∧ H L = some (.lst zs) ∧ IsDs H zs (rowsD Sn.row more) ∧ sp.length + more.length ≤ 40 ∧ ∀ u H', Same H H' → IsD H' u (netP b m (sp ++ more)) → Q u H'
end HN

namespace HN
open PySem L2 PyProof.Rows
def top (i : Nat) : Stmt := PySem.Challenge.pw_hourtable_k75_whole_moves_one_behind_ano.main.body.getD i (.Pass ⟨0, 0, 0, 0⟩)
end HN

namespace HN
open PySem L2 PyProof.Rows
abbrev sGW : Stmt := top 6
abbrev sWhole : Stmt := top 7
abbrev sWithin : Stmt := top 8
abbrev sEnds : Stmt := top 13
abbrev sLens : Stmt := top 14
abbrev sSpan : Stmt := top 15
abbrev sNet : Stmt := top 16
section
variable {P : Program} {w : World} {K : PySem.W.Frag} {mg : Str → Option Value} {base : Heap}

theorem scGW : FnScope [] [] (defScope sGW) := ⟨rfl, rfl, rfl, by decide +kernel, rfl, by decide +kernel, by decide +kernel⟩
theorem ok_gw {f : Addr} {fd : FuncData} (F : Fun K "greatest_whole" "greatest_whole" sGW f fd) : FnOk P w K mg base CX0 1 f fd [] spGW := by
  refine F.ok scGW (fun vs H Q E h => by obtain ⟨rfl, _⟩ := h; rfl) (fun cdv A outer s H vs Q E hr h => ?_)
  obtain ⟨rfl, k⟩ := h
  refine ⟨_, pss_one (ps_ret (pe_op op_sub (pe_op op_pow pe_int pe_int) pe_int)), ?_⟩
  exact ⟨_, _, rfl, rfl, ⟨by decide, by decide, by decide⟩, _, _, rfl, rfl, k⟩

theorem scWhole : FnScope ["thing"] ["thing"] (defScope sWhole) := ⟨rfl, rfl, rfl, by decide +kernel, rfl, by decide +kernel, by decide +kernel⟩
theorem ok_whole {f : Addr} {fd : FuncData} (F : Fun K "is_whole" "is_whole" sWhole f fd) (T : Nm mg) : FnOk P w K mg base CX0 1 f fd ["thing"] spWhole := by
  refine F.ok scWhole (fun vs H Q E h => by obtain ⟨v, rfl, _⟩ := h; rfl) (fun cdv A outer s H vs Q E hr h => ?_)
  obtain ⟨v, rfl, ⟨S, hS⟩, k⟩ := h
  refine ⟨_, pss_one (ps_ret (pe_and (pe_isInt T (pv 0)) (pe_one (pe_not (pe_isBool T (pv 0)))))), ?_⟩
  refine ⟨_, rfl, _, _, rfl, hS, _, rfl, ?_⟩
  refine ite2 (fun hc => ?_) (fun hc => ?_)
  · refine ⟨_, rfl, _, _, rfl, hS, _, rfl, ?_⟩
    rw [sort_int hS hc]; exact k
  · rw [← sort_noInt hS hc]; exact k

theorem scWithin : FnScope ["thing", "low", "high"] ["thing", "low", "high"] (defScope sWithin) := ⟨rfl, rfl, rfl, by decide +kernel, rfl, by decide +kernel, by decide +kernel⟩
theorem ok_within {f f1 : Addr} {fd fd1 : FuncData} (F : Fun K "is_within" "is_within" sWithin f fd) (T : Nm mg) (G1 : Fn K mg "is_whole" sWhole ["thing"] f1 fd1) : FnOk P w K mg base CX0 2 f fd ["thing", "low", "high"] spWithin := by
  have F1 : FnOk P w K mg base CX0 1 f1 fd1 ["thing"] spWhole := ok_whole G1.F T
  refine F.ok scWithin (fun vs H Q E h => by obtain ⟨v, lo, hi, rfl, _⟩ := h; rfl) (fun cdv A outer s H vs Q E hr h => ?_)
  obtain ⟨v, lo, hi, rfl, hS, k⟩ := h
  refine ⟨_, pss_one (ps_ret (pe_and (pc1 G1 F1 hr (pa_cons (pv 0) pa_nil)) (pe_one (pe_chain op_le op_le (pv 1) (pv 0) (pv 2))))), ?_⟩
  refine ⟨_, rfl, _, rfl, hS, _, rfl, ?_⟩
  refine ite2 (fun hc => ?_) (fun hc => ?_)
  · obtain ⟨i, rfl⟩ := isI_of hc
    refine ⟨_, rfl, _, rfl, _, _, rfl, rfl, _, rfl, ?_⟩
    refine ite2 (fun h1 => ?_) (fun h1 => ?_)
    · refine ⟨_, rfl, _, _, rfl, rfl, ?_⟩
      have e : inI (.int i) lo hi = decide (i ≤ hi) := by show (decide (lo ≤ i) && decide (i ≤ hi)) = _; rw [h1]; rfl
      show Q (.bl (decide (i ≤ hi))) H
      rw [← e]; exact k
    · have e : inI (.int i) lo hi = false := by show (decide (lo ≤ i) && decide (i ≤ hi)) = _; rw [Bool.eq_false_iff.mpr h1]; rfl
      rw [← e]; exact k
  · have e : inI v lo hi = false := by
      cases v with
      | int i => exact absurd rfl hc
      | _ => rfl
    rw [← e]; exact k

theorem scEnds : FnScope ["many", "start", "goal"] ["many", "start", "goal"] (defScope sEnds) := ⟨rfl, rfl, rfl, by decide +kernel, rfl, by decide +kernel, by decide +kernel⟩
theorem inI_int {v : V} {lo hi : Int} (h : inI v lo hi = true) : ∃ i, v = .int i ∧ lo ≤ i ∧ i ≤ hi := by
  cases v with
  | int i =>
    have h : (decide (lo ≤ i) && decide (i ≤ hi)) = true := h
    rw [Bool.and_eq_true] at h
    exact ⟨i, rfl, of_decide_eq_true h.1, of_decide_eq_true h.2⟩
  | _ => cases h
theorem ok_ends {f f1 f2 : Addr} {fd fd1 fd2 : FuncData} (F : Fun K "are_ends" "are_ends" sEnds f fd) (T : Nm mg) (G1 : Fn K mg "is_whole" sWhole ["thing"] f1 fd1) (G2 : Fn K mg "is_within" sWithin ["thing", "low", "high"] f2 fd2) :
    FnOk P w K mg base CX0 3 f fd ["many", "start", "goal"] spEnds := by
  have F2 : FnOk P w K mg base CX0 2 f2 fd2 ["thing", "low", "high"] spWithin := ok_within G2.F T G1
  refine F.ok scEnds (fun vs H Q E h => by obtain ⟨m, s, g, rfl, _⟩ := h; rfl) (fun cdv A outer s H vs Q E hr h => ?_)
  obtain ⟨m, st, g, rfl, hs, hg, k⟩ := h
  refine ⟨_, pss_one (ps_ret (pe_and (pc1 G2 F2 hr (pa_cons (pv 1) (pa_cons pe_int (pa_cons (pe_op op_sub (pv 0) pe_int) pa_nil))))
    (pe_and (pc1 G2 F2 hr (pa_cons (pv 2) (pa_cons pe_int (pa_cons (pe_op op_sub (pv 0) pe_int) pa_nil)))) (pe_one (pe_cmpR op_ne (pv 1) (pv 2) (nomark _)))))), ?_⟩
  refine ⟨_, rfl, _, rfl, _, _, rfl, rfl, _, _, _, rfl, hs, _, rfl, ?_⟩
  refine ite2 (fun h1 => ?_) (fun h1 => ?_)
  · refine ⟨_, rfl, _, rfl, _, _, rfl, rfl, _, _, _, rfl, hg, _, rfl, ?_⟩
    refine ite2 (fun h2 => ?_) (fun h2 => ?_)
    · obtain ⟨i, rfl, _⟩ := inI_int h1
      obtain ⟨j, rfl, _⟩ := inI_int h2
      refine ⟨_, rfl, _, rfl, rfl, ?_⟩
      have e : endsB m (.int i) (.int j) = !decide (V.int i = V.int j) := by unfold endsB; rw [h1, h2]; rfl
      rw [← e]; exact k
    · have e : endsB m st g = false := by unfold endsB; rw [h1, Bool.eq_false_iff.mpr h2]; rfl
      rw [← e]; exact k
  · have e : endsB m st g = false := by unfold endsB; rw [Bool.eq_false_iff.mpr h1]; rfl
    rw [← e]; exact k

theorem scLens : FnScope ["beat", "least", "most"] ["beat", "least", "most"] (defScope sLens) := ⟨rfl, rfl, rfl, by decide +kernel, rfl, by decide +kernel, by decide +kernel⟩
theorem ok_lens {f f0 f1 f2 : Addr} {fd fd0 fd1 fd2 : FuncData} (F : Fun K "are_lengths" "are_lengths" sLens f fd) (T : Nm mg) (G0 : Fn K mg "greatest_whole" sGW [] f0 fd0) (G1 : Fn K mg "is_whole" sWhole ["thing"] f1 fd1) (G2 : Fn K mg "is_within" sWithin ["thing", "low", "high"] f2 fd2) :
    FnOk P w K mg base CX0 3 f fd ["beat", "least", "most"] spLens := by
  have F0 : FnOk P w K mg base CX0 1 f0 fd0 [] spGW := ok_gw G0.F
  have F2 : FnOk P w K mg base CX0 2 f2 fd2 ["thing", "low", "high"] spWithin := ok_within G2.F T G1
  refine F.ok scLens (fun vs H Q E h => by obtain ⟨m, s, g, rfl, _⟩ := h; rfl) (fun cdv A outer s H vs Q E hr h => ?_)
  obtain ⟨b, l, o, rfl, hl, ho, k⟩ := h
  have hr1 : Room 1 _ := hr.mono (by decide)
  refine ⟨_, pss_cons (ps_if (pt_not (pt_val (pc1 G2 F2 hr (pa_cons (pv 1) (pa_cons pe_int (pa_cons (pc0 G0 F0 hr1) pa_nil)))))) (pss_one (ps_ret pe_bl)) pss_nil)
    (pss_one (ps_ret (pc1 G2 F2 hr (pa_cons (pv 2) (pa_cons (pv 1) (pa_cons (pe_callB (call_min2 rfl) rfl T.min boot_min (pa_cons (pe_op op_sub (pe_op op_add (pv 1) (pv 0)) pe_int) (pa_cons (pc0 G0 F0 hr1) pa_nil))) pa_nil)))))), ?_⟩
  refine ⟨_, rfl, rfl, _, _, _, rfl, hl, _, rfl, ?_⟩
  refine ite2 (fun h1 => ?_) (fun h1 => ?_)
  · have e : lensB b l o = false := by
      unfold lensB
      have : inI l 0 B60 = false := by simpa using h1
      rw [this]; rfl
    show Q (.bl false) H
    rw [← e]; exact k
  · have h1 : inI l 0 B60 = true := by simpa using h1
    obtain ⟨i, rfl, _⟩ := inI_int h1
    refine ⟨_, rfl, _, rfl, _, rfl, _, rfl, _, _, rfl, rfl, _, _, rfl, rfl, rfl, _, _, rfl, _, _, _, rfl, ho, ?_⟩
    have e : lensB b (.int i) o = inI o i (if B60 < i + b - 1 then B60 else i + b - 1) := by
      unfold lensB
      rw [h1]; rfl
    rw [e] at k
    exact k

theorem scSpan : FnScope ["beat", "many", "thing"] ["beat", "many", "thing"] (defScope sSpan) := ⟨rfl, rfl, rfl, by decide +kernel, rfl, by decide +kernel, by decide +kernel⟩
theorem ok_span {f f0 f1 f2 f3 f4 : Addr} {fd fd0 fd1 fd2 fd3 fd4 : FuncData} (F : Fun K "is_span" "is_span" sSpan f fd) (T : Nm mg) (C : Cs mg) (G0 : Fn K mg "greatest_whole" sGW [] f0 fd0) (G1 : Fn K mg "is_whole" sWhole ["thing"] f1 fd1) (G2 : Fn K mg "is_within" sWithin ["thing", "low", "high"] f2 fd2)
    (G3 : Fn K mg "are_ends" sEnds ["many", "start", "goal"] f3 fd3) (G4 : Fn K mg "are_lengths" sLens ["beat", "least", "most"] f4 fd4) : FnOk P w K mg base CX0 4 f fd ["beat", "many", "thing"] spSpan := by
  have F2 : FnOk P w K mg base CX0 2 f2 fd2 ["thing", "low", "high"] spWithin := ok_within G2.F T G1
  have F3 : FnOk P w K mg base CX0 3 f3 fd3 ["many", "start", "goal"] spEnds := ok_ends G3.F T G1 G2
  have F4 : FnOk P w K mg base CX0 3 f4 fd4 ["beat", "least", "most"] spLens := ok_lens G4.F T G0 G1 G2
  refine F.ok scSpan (fun vs H Q E h => by obtain ⟨b, m, v, rfl, _⟩ := h; rfl) (fun cdv A outer s H vs Q E hr h => ?_)
  obtain ⟨b, m, v, rfl, hv, k⟩ := h
  have hr2 : Room 2 _ := hr.mono (by decide)
  refine ⟨_, pss_cons (ps_if (PW.pt (pw_or (pt_not (pt_val (pe_isTup T (pv 2)))) (pw_or1 (pt_cmpR op_ne (pe_callB call_len_seq rfl T.len PySem.boot_len (pa_cons (pv 2) pa_nil)) pe_int (nomark _))))) (pss_one (ps_ret pe_bl)) pss_nil)
    (pss_cons (ps_if (PW.pt (pw_or (pt_not (pt_val (pc1 G3 F3 hr (pa_cons (pv 1) (pa_cons (pe_ix ix_tup (pv 2) pe_int (fun _ _ => rfl)) (pa_cons (pe_ix ix_tup (pv 2) pe_int (fun _ _ => rfl)) pa_nil))))))
      (pw_or1 (pt_not (pt_val (pc1 G4 F4 hr (pa_cons (pv 0) (pa_cons (pe_ix ix_tup (pv 2) pe_int (fun _ _ => rfl)) (pa_cons (pe_ix ix_tup (pv 2) pe_int (fun _ _ => rfl)) pa_nil))))))))) (pss_one (ps_ret pe_bl)) pss_nil)
    (pss_one (ps_ret (pc1 G2 F2 hr2 (pa_cons (pe_ix ix_tup (pv 2) pe_int (fun _ _ => rfl)) (pa_cons pe_int (pa_cons (pe_gint C.mw) pa_nil))))))), ?_⟩
  obtain ⟨S, hS⟩ := hv.1
  refine ⟨_, rfl, _, _, rfl, hS, _, rfl, ?_⟩
  rcases sort_tup hS with ⟨a, xs, rfl, ha, hq⟩ | ⟨hq, hno⟩
  · refine iteC (by rw [hq]; rfl) ?_
    refine ⟨_, rfl, a, xs, rfl, .inr (SqT.of ha), rfl, _, rfl, ?_⟩
    refine ite2 (fun h5 => ?_) (fun h5 => ?_)
    · have e : spanOk H b m (.ref a) = false := spanOk_no fun a' xs' e1 e2 z => by
        cases e1
        rw [ha] at e2
        cases e2
        rw [z] at h5
        exact absurd h5 (by decide)
      show Q (.bl false) H
      rw [← e]; exact k
    · have hl : xs.length = 5 := by
        have h5 : ¬ (!decide (V.int (xs.length : Int) = V.int 5)) = true := h5
        rw [Bool.not_eq_true, Bool.not_eq_false'] at h5
        have := of_decide_eq_true h5
        injection this with this
        omega
      obtain ⟨x0, x1, x2, x3, x4, rfl⟩ := len5 hl
      have kn := hv.2 a _ rfl ha
      have e : spanOk H b m (.ref a) = (endsB m x0 x1 && (lensB b x2 x3 && inI x4 0 1000000000000)) := by simp only [spanOk]; rw [ha]
      rw [e] at k
      refine ⟨_, rfl, _, rfl, a, _, _, _, rfl, rfl, SqT.of ha, atI_nat (j := 0) rfl, _, rfl, a, _, _, _, rfl, rfl, SqT.of ha, atI_nat (j := 1) rfl, _, _, _, rfl, kn _ (by simp), kn _ (by simp), _, rfl, ?_⟩
      refine ite2 (fun h1 => ?_) (fun h1 => ?_)
      · have h1 : endsB m x0 x1 = false := by simpa using h1
        rw [h1] at k
        exact k
      · have h1 : endsB m x0 x1 = true := by simpa using h1
        rw [h1] at k
        refine ⟨_, rfl, _, rfl, a, _, _, _, rfl, rfl, SqT.of ha, atI_nat (j := 2) rfl, _, rfl, a, _, _, _, rfl, rfl, SqT.of ha, atI_nat (j := 3) rfl, _, _, _, rfl, kn _ (by simp), kn _ (by simp), _, rfl, ?_⟩
        refine ite2 (fun h2 => ?_) (fun h2 => ?_)
        · have h2 : lensB b x2 x3 = false := by simpa using h2
          rw [h2] at k
          exact k
        · have h2 : lensB b x2 x3 = true := by simpa using h2
          rw [h2] at k
          exact ⟨_, rfl, a, _, _, _, rfl, rfl, SqT.of ha, atI_nat (j := 4) rfl, _, _, _, rfl, kn _ (by simp), k⟩
  · refine iteB (by rw [hq]; rfl) ?_
    have e : spanOk H b m v = false := spanOk_no fun a xs e1 e2 => absurd e2 (hno a xs e1)
    show Q (.bl false) H
    rw [← e]; exact k

theorem scNet : FnScope ["thing", "beat", "many", "spans"] ["thing"] (defScope sNet) := ⟨rfl, rfl, rfl, by decide +kernel, rfl, by decide +kernel, by decide +kernel⟩
theorem ok_net {f f0 f1 f2 f3 f4 f5 : Addr} {fd fd0 fd1 fd2 fd3 fd4 fd5 : FuncData} (F : Fun K "is_net" "is_net" sNet f fd) (T : Nm mg) (C : Cs mg) (G0 : Fn K mg "greatest_whole" sGW [] f0 fd0) (G1 : Fn K mg "is_whole" sWhole ["thing"] f1 fd1) (G2 : Fn K mg "is_within" sWithin ["thing", "low", "high"] f2 fd2)
    (G3 : Fn K mg "are_ends" sEnds ["many", "start", "goal"] f3 fd3) (G4 : Fn K mg "are_lengths" sLens ["beat", "least", "most"] f4 fd4) (G5 : Fn K mg "is_span" sSpan ["beat", "many", "thing"] f5 fd5) : FnOk P w K mg base CX0 5 f fd ["thing"] spNet := by
  have F0 : FnOk P w K mg base CX0 1 f0 fd0 [] spGW := ok_gw G0.F
  have F2 : FnOk P w K mg base CX0 2 f2 fd2 ["thing", "low", "high"] spWithin := ok_within G2.F T G1
  have F5 : FnOk P w K mg base CX0 4 f5 fd5 ["beat", "many", "thing"] spSpan := ok_span G5.F T C G0 G1 G2 G3 G4
  refine F.ok scNet (fun vs H Q E h => by obtain ⟨v, rfl, _⟩ := h; rfl) (fun cdv A outer s H vs Q E hr h => ?_)
  obtain ⟨v, rfl, hv, k⟩ := h
  have hr1 : Room 1 _ := hr.mono (by decide)
  have hr2 : Room 2 _ := hr.mono (by decide)
  refine ⟨_, pss_cons (ps_if (PW.pt (pw_or (pt_not (pt_val (pe_isTup T (pv 0)))) (pw_or1 (pt_cmpR op_ne (pe_callB call_len_seq rfl T.len PySem.boot_len (pa_cons (pv 0) pa_nil)) pe_int (nomark _))))) (pss_one (ps_ret pe_bl)) pss_nil)
    (pss_cons (ps_set (i := 1) scNet.nd rfl (Or.inr rfl) (pe_ix ix_tup (pv 0) pe_int (fun _ _ => rfl)))
    (pss_cons (ps_set (i := 2) scNet.nd rfl (Or.inr rfl) (pe_ix ix_tup (pv 0) pe_int (fun _ _ => rfl)))
    (pss_cons (ps_set (i := 3) scNet.nd rfl (Or.inl rfl) (pe_ix ix_tup (pv 0) pe_int (fun _ _ => rfl)))
    (pss_cons (ps_if (PW.pt (pw_or (pt_not (pt_val (pc1 G2 F2 hr2 (pa_cons (pv 1) (pa_cons pe_int (pa_cons (pc0 G0 F0 hr1) pa_nil)))))) (pw_or1 (pt_not (pt_val (pc1 G2 F2 hr2 (pa_cons (pv 2) (pa_cons pe_int (pa_cons (pe_gint C.mh) pa_nil))))))))) (pss_one (ps_ret pe_bl)) pss_nil)
    (pss_cons (ps_if (PW.pt (pw_or (pt_not (pt_val (pe_isTup T (pv 3)))) (pw_or1 (pt_cmpR op_gt (pe_callB call_len_seq rfl T.len PySem.boot_len (pa_cons (pv 3) pa_nil)) (pe_gint C.ms) (nomark _))))) (pss_one (ps_ret pe_bl)) pss_nil)
    (pss_one (ps_ret (pe_callB (call_all rfl) rfl T.all boot_all (pa_cons (pe_comp (fr := ["beat", "many"]) (js := [1, 2]) rfl (pi_tup (pv 3)) (by decide +kernel) rfl (by decide +kernel) rfl (by show ∀ y : Str × NameKind, y ∈ _ → y.2 = NameKind.free → List.lookup y.1 (defScope sNet).names = some NameKind.cell; decide +kernel) (by decide +kernel) rfl (by decide +kernel)
      (fun _ _ _ _ _ => ⟨pc1 G5 F5 hr (pa_cons (pv 1) (pa_cons (pv 2) (pa_cons (pv 0) pa_nil))), pts_nil⟩)) pa_nil))))))))), ?_⟩
  obtain ⟨S, hS⟩ := hv.1
  refine ⟨_, rfl, _, _, rfl, hS, _, rfl, ?_⟩
  rcases sort_tup hS with ⟨a, xs, rfl, ha, hq⟩ | ⟨hq, hno⟩
  · refine iteC (by rw [hq]; rfl) ?_
    refine ⟨_, rfl, a, xs, rfl, .inr (SqT.of ha), rfl, _, rfl, ?_⟩
    refine ite2 (fun h3 => ?_) (fun h3 => ?_)
    · have e : netOk H (.ref a) = false := netOk_no fun a' xs' e1 e2 z => by
        cases e1
        rw [ha] at e2
        cases e2
        rw [z] at h3
        exact absurd h3 (by decide)
      show Q (.bl false) H
      rw [← e]; exact k H (Same.refl H)
    · have hl : xs.length = 3 := by
        have h3 : ¬ (!decide (V.int (xs.length : Int) = V.int 3)) = true := h3
        rw [Bool.not_eq_true, Bool.not_eq_false'] at h3
        have := of_decide_eq_true h3
        injection this with this
        omega
      obtain ⟨b, m, sp, rfl⟩ := len3 hl
      have kn := hv.2 a _ rfl ha
      have e : netOk H (.ref a) = (inI b 1 B60 && (inI m 1 16 && spansOk H (iv b) (iv m) sp)) := by simp only [netOk]; rw [ha]
      rw [e] at k
      refine ⟨_, rfl, a, _, _, _, rfl, rfl, SqT.of ha, atI_nat (j := 0) rfl, ?_⟩
      refine ⟨_, rfl, a, _, _, _, rfl, rfl, SqT.of ha, atI_nat (j := 1) rfl, ?_⟩
      refine ⟨_, rfl, a, _, _, _, rfl, rfl, SqT.of ha, atI_nat (j := 2) rfl, ?_⟩
      refine ⟨_, rfl, rfl, _, _, _, rfl, (kn b (by simp)).1, _, rfl, ?_⟩
      refine ite2 (fun h1 => ?_) (fun h1 => ?_)
      · have h1 : inI b 1 B60 = false := by simpa using h1
        rw [h1] at k
        exact k H (Same.refl H)
      · have h1 : inI b 1 B60 = true := by simpa using h1
        rw [h1] at k
        refine ⟨_, rfl, _, _, _, rfl, (kn m (by simp)).1, _, rfl, ?_⟩
        refine ite2 (fun h2 => ?_) (fun h2 => ?_)
        · have h2 : inI m 1 16 = false := by simpa using h2
          rw [h2] at k
          exact k H (Same.refl H)
        · have h2 : inI m 1 16 = true := by simpa using h2
          rw [h2] at k
          obtain ⟨bi, rfl, _⟩ := inI_int h1
          obtain ⟨mi, rfl, _⟩ := inI_int h2
          obtain ⟨S2, hS2⟩ := (kn sp (by simp)).1
          refine ⟨_, rfl, _, _, rfl, hS2, _, rfl, ?_⟩
          rcases sort_tup hS2 with ⟨p, ys, rfl, hp, hq2⟩ | ⟨hq2, hno2⟩
          · refine iteC (by rw [hq2]; rfl) ?_
            refine ⟨_, rfl, p, ys, rfl, .inr (SqT.of hp), _, _, rfl, rfl, _, rfl, ?_⟩
            refine ite2 (fun h4 => ?_) (fun h4 => ?_)
            · have h4 : (40 : Int) < (ys.length : Int) := of_decide_eq_true h4
              have e2 : spansOk H (iv (.int bi)) (iv (.int mi)) (.ref p) = false := spansOk_no fun a' xs' e1 e2 => by
                cases e1
                rw [hp] at e2
                cases e2
                omega
              rw [e2] at k
              exact k H (Same.refl H)
            · have h4 : ¬ (40 : Int) < (ys.length : Int) := fun z => h4 (decide_eq_true z)
              have e2 : spansOk H (iv (.int bi)) (iv (.int mi)) (.ref p) = ys.all (spanOk H bi mi) := by
                simp only [spansOk]
                rw [hp]
                show (decide (ys.length ≤ 40) && ys.all (spanOk H bi mi)) = _
                rw [decide_eq_true (by omega)]; rfl
              rw [e2] at k
              have kn2 := (kn (.ref p) (by simp)).2 p ys rfl hp
              have h40 : (40 : Nat) ≤ sizeLine := by decide
              have hz : ys.length ≤ sizeLine := by omega
              refine ⟨_, rfl, p, rfl, ⟨ys, SqT.of hp⟩, ?_⟩
              refine comp_tup (K := K) (a := p) (xs := ys) (fun i zs H2 => H2 = H ∧ zs = (ys.take i).map fun x => V.bl (spanOk H bi mi x)) ⟨rfl, rfl⟩ (fun i zs H2 hi ⟨e1, e2⟩ => ?_) hz (fun i x zs H2 hx ⟨e1, e2⟩ => ?_) (fun zs H2 ⟨e1, e2⟩ D hD => ?_)
              · subst e1 e2
                refine ⟨SqT.of hp, ?_⟩
                rw [List.length_map, List.length_take]; omega
              · subst e1
                refine tNoIf_go ?_
                refine ⟨_, rfl, _, rfl, _, rfl, _, _, _, rfl, kn2 x (List.mem_of_getElem? hx), rfl, ?_⟩
                rw [e2, List.take_add_one, hx, List.map_append]
                rfl
              · subst e1
                rw [List.take_length] at e2
                refine ⟨D, ys.map (spanOk H2 bi mi), rfl, SqL.of (by rw [upd_same, e2, List.map_map]; rfl), ?_⟩
                have e3 : (ys.map (spanOk H2 bi mi)).all id = ys.all (spanOk H2 bi mi) := by rw [List.all_map]; rfl
                rw [e3]
                exact k _ fun c o q => by rw [upd_ne (ne_of_none q hD)]; exact q
          · refine iteB (by rw [hq2]; rfl) ?_
            have e2 : spansOk H (iv (.int bi)) (iv (.int mi)) sp = false := spansOk_no fun a' xs' e1 e2 => absurd e2 (hno2 a' xs' e1)
            rw [e2] at k
            exact k H (Same.refl H)
  · refine iteB (by rw [hq]; rfl) ?_
    have e : netOk H v = false := netOk_no fun a xs e1 e2 => absurd e2 (hno a xs e1)
    show Q (.bl false) H
    rw [← e]; exact k H (Same.refl H)
end
end HN

/-! what is a table. -/
namespace HN
open PySem L2 PyProof.Rows
abbrev sTable : Stmt := top 20
theorem time_ok {H : Hp} {x : V} {d : Dt} (b : Int) (h : IsD H x d) : inI x 0 (b - 1) = timeOk b d := by
  cases h <;> rfl
section
variable {P : Program} {w : World} {K : PySem.W.Frag} {mg : Str → Option Value} {base : Heap}
theorem scTable : FnScope ["net", "thing"] ["net", "thing"] (defScope sTable) := ⟨rfl, rfl, rfl, by decide +kernel, rfl, by decide +kernel, by decide +kernel⟩
theorem ok_table {f f1 f2 : Addr} {fd fd1 fd2 : FuncData} (F : Fun K "is_table" "is_table" sTable f fd) (T : Nm mg) (G1 : Fn K mg "is_within" sWithin ["thing", "low", "high"] f1 fd1) (G2 : Fn K mg "is_whole" sWhole ["thing"] f2 fd2) : FnOk P w K mg base CX0 3 f fd ["net", "thing"] spTable := by
  have F1 : FnOk P w K mg base CX0 2 f1 fd1 ["thing", "low", "high"] spWithin := ok_within G1.F T G2
  refine F.ok scTable (fun vs H Q E h => by obtain ⟨t, b, m, rest, v, d, rfl, _⟩ := h; rfl) (fun cdv A outer s H vs Q E hr h => ?_)
  obtain ⟨t, b, m, rest, v, d, rfl, ht, hd, few, k⟩ := h
  refine ⟨_, PSl.h (l_cons ⟨(ps_if (PW.pt (pw_or (pt_not (pt_val (pe_isTup T (pv 1)))) (pw_or1 (pt_cmpR op_ne (pe_callB call_len_seq rfl T.len PySem.boot_len (pa_cons (pv 1) pa_nil)) (pe_ix ix_tup (pv 0) pe_int (fun _ _ => rfl)) (nomark _))))) (pss_one (ps_ret pe_bl)) pss_nil)⟩
    (l_one ⟨(ps_ret (pe_callB (call_all rfl) rfl T.all boot_all (pa_cons (pe_comp (fr := ["net"]) (js := [0]) rfl (pi_tup (pv 1)) (by decide +kernel) rfl (by decide +kernel) rfl (by show ∀ y : Str × NameKind, y ∈ _ → y.2 = NameKind.free → List.lookup y.1 (defScope sTable).names = some NameKind.cell; decide +kernel) (by decide +kernel) rfl (by decide +kernel) (fun _ _ _ _ _ => ⟨(pc1 G1 F1 hr (pa_cons (pv 0) (pa_cons pe_int (pa_cons (pe_op op_sub (pe_ix (r := rIxT K) ix_tup (pv 1) pe_int (fun _ _ => rfl)) pe_int) pa_nil)))), pts_nil⟩)) pa_nil)))⟩)), ?_⟩
  by_cases hT : d.ty = "tuple"
  · obtain ⟨ds, rfl⟩ : ∃ ds, d = .tup ds := by
      cases d with
      | tup ds => exact ⟨ds, rfl⟩
      | oth T => cases hd <;> simp [Dt.ty] at hT
      | _ => simp [Dt.ty] at hT
    obtain ⟨p, xs, rfl, hp, rx⟩ := hd.tup_of
    have few := few ds rfl
    have lx := rx.length
    refine ⟨_, rfl, _, _, rfl, hd.tyn, _, rfl, iteC rfl ?_⟩
    refine ⟨_, rfl, p, _, rfl, .inr (SqT.of hp), _, rfl, t, _, _, _, rfl, rfl, SqT.of ht, atI_nat (j := 1) rfl, rfl, _, rfl, ?_⟩
    refine ite2 (fun h1 => ?_) (fun h1 => ?_)
    · have h2 : tabOk b m (.tup ds) = false := by
        show (decide ((ds.length : Int) = m) && ds.all (timeOk b)) = false
        rw [decide_eq_false, Bool.false_and]
        intro z
        rw [lx, z, decide_eq_true rfl] at h1
        exact absurd h1 (by decide)
      rw [← h2]; exact k H (Same.refl H)
    · have hm : (ds.length : Int) = m := by
        rw [← lx]
        by_cases z : ((xs.length : Nat) : Int) = m
        · exact z
        · refine absurd ?_ h1
          rw [decide_eq_false (fun q => z (by injection q))]; rfl
      refine ⟨_, rfl, p, rfl, ⟨_, SqT.of hp⟩, ?_⟩
      refine comp_tup (K := K) (a := p) (xs := xs) (fun i zs H2 => H2 = H ∧ zs = ((ds.take i).map (timeOk b)).map V.bl) ⟨rfl, rfl⟩ (fun i zs H2 hi ⟨e1, e2⟩ => ?_) (by rw [lx]; exact small_le few) (fun i x zs H2 hx ⟨e1, e2⟩ => ?_) (fun zs H2 ⟨e1, e2⟩ D hD => ?_)
      · subst e1
        refine ⟨SqT.of hp, ?_⟩
        rw [e2, List.length_map, List.length_map, List.length_take]; omega
      · subst e1
        obtain ⟨d', hd', dx⟩ := rx.get hx
        refine tNoIf_go ?_
        refine ⟨_, rfl, _, rfl, t, _, _, _, rfl, rfl, SqT.of ht, atI_nat (j := 0) rfl, _, _, rfl, rfl, x, 0, b - 1, rfl, ⟨_, dx.tyn⟩, rfl, ?_⟩
        rw [e2, time_ok b dx, List.take_add_one, hd']
        simp
      · subst e1
        refine ⟨D, (ds.map (timeOk b)), rfl, SqL.of ?_, ?_⟩
        · rw [upd_same, e2, lx, List.take_length]
        · have e : (ds.map (timeOk b)).all id = tabOk b m (.tup ds) := by
            show _ = (decide ((ds.length : Int) = m) && ds.all (timeOk b))
            rw [decide_eq_true hm, Bool.true_and, List.all_map]; rfl
          rw [e]; exact k _ (Same.put (Same.refl H2) hD)
  · refine ⟨_, rfl, _, _, rfl, hd.tyn, _, rfl, iteB ?_ ?_⟩
    · have : (d.ty == "tuple") = false := by simpa using hT
      rw [this]; rfl
    · have h2 : tabOk b m d = false := by
        cases d with
        | tup ds => exact absurd rfl hT
        | _ => rfl
      rw [← h2]; exact k H (Same.refl H)
end
end HN

/-! a deck. -/
namespace HN
open PySem L2 PyProof.Rows
abbrev sNums : Stmt := top 42
theorem cut_upto {xs : List V} {i : Int} {n : Nat} (hi : i = (n : Int)) : cutV xs none (some i) = xs.take n := by
  unfold cutV
  subst hi
  have e := HT.sIx_nat xs.length xs.length n
  rw [e]
  show (xs.drop 0).take (min n xs.length - 0) = xs.take n
  rw [List.drop_zero, Nat.sub_zero]
  by_cases h : n ≤ xs.length
  · rw [Nat.min_eq_left h]
  · rw [Nat.min_eq_right (by omega), List.take_length, List.take_of_length_le (by omega)]
def spNums (K : PySem.W.Frag) : Sp := fun vs H Q _ => ∃ (a : Addr) (ns : List Int) (m : Int), vs = [.ref a, .int m] ∧ SqL K H a (ns.map V.int) ∧ 64 ≤ m ∧ m ≤ 900 ∧ ∀ p H1 H', Same H H1 → H1 p = none → Md p H1 H' → Q (.ref p) H'
section
variable {P : Program} {w : World} {K : PySem.W.Frag} {mg : Str → Option Value} {base : Heap}
theorem scNums : FnScope ["_law_script", "_law_most", "_law_deck", "_law_kind", "_law_last"] ["_law_script", "_law_most"] (defScope sNums) := ⟨rfl, rfl, rfl, by decide +kernel, rfl, by decide +kernel, by decide +kernel⟩
theorem ok_nums {f : Addr} {fd : FuncData} (F : Fun K "_law_numbers" "_law_numbers" sNums f fd) (T : Nm mg) (T2 : Nt mg) : FnOk P w K mg base CX0 1 f fd ["_law_script", "_law_most"] (spNums K) := by
  refine F.ok scNums (fun vs H Q E h => by obtain ⟨a, ns, m, rfl, _⟩ := h; rfl) (fun cdv A outer s H vs Q E hr h => ?_)
  obtain ⟨a, ns, m, rfl, ha, hm1, hm2, k⟩ := h
  refine ⟨_, PSl.h (l_cons ⟨(ps_set (i := 2) scNums.nd rfl (Or.inl rfl) (pe_callTy call_list_of rfl T2.tlist boot_list (pa_cons (pe_slice sl_listA (pv 0) po_none (po_some pe_int)) pa_nil)))⟩
    (l_cons ⟨(ps_set (i := 3) scNums.nd rfl (Or.inl rfl) pe_int)⟩
    (l_cons ⟨(ps_cutK (ps_if (pt_cmpR (op_neL0 hr.units0) (pv 2) (pe_lstA pa_nil) (nomark _)) (PSl.h (l_cons ⟨(ps_set (i := 3) scNums.nd rfl (Or.inl rfl) (pe_op op_mod (pe_ix ix_list (pv 2) pe_int (fun _ _ => rfl)) pe_int))⟩
    (l_one ⟨(ps_asg (pe_op op_fdiv (pe_ix ix_list (pv 2) pe_int (fun _ _ => rfl)) pe_int) (pg_sub (pv 2) pe_int set_list))⟩))) pss_nil))⟩
    (l_cons ⟨(ps_set (i := 4) scNums.nd rfl (Or.inl rfl) (pe_op op_add pe_int (pe_op op_mod (pe_callB (call_sum rfl) rfl T2.sum boot_sum (pa_cons (pv 2) pa_nil)) pe_int)))⟩
    (l_cons ⟨(ps_while PassesOwn.never (pt_cmpR op_lt (pe_callB call_len_seq rfl T.len PySem.boot_len (pa_cons (pv 2) pa_nil)) (pv 1) (nomark _)) (PSl.h (l_cons ⟨(ps_set (i := 4) scNums.nd rfl (Or.inl rfl) (pe_op op_mod (pe_op op_add (pe_op op_add (pe_op op_mul (pv 4) (pv 4)) (pe_op op_mul pe_int (pv 4))) (pe_callB call_len_seq rfl T.len PySem.boot_len (pa_cons (pv 2) pa_nil))) pe_int))⟩
    (l_cons ⟨(ps_set (i := 4) scNums.nd rfl (Or.inl rfl) (pe_op op_mod (pe_op op_add (pe_op op_add (pe_op op_mul (pv 4) (pv 4)) (pe_op op_mul pe_int (pv 4))) pe_int) pe_int))⟩
    (l_one ⟨(ps_expr (pe_bm PySem.F.plainAttrs_list PySem.F.slot_list_append PySem.F.type_list_append mt_append (pv 2) (pa_cons (pv 4) pa_nil)))⟩)))))⟩
    (l_one ⟨(ps_ret (pe_op op_cat (pe_lstA (pa_cons (pv 3) pa_nil)) (pe_backL (pv 2))))⟩)))))), ?_⟩
  refine ⟨_, rfl, _, rfl, a, _, rfl, ha, fun q1 H1 S1 h1 => ?_⟩
  have h1 : H1 q1 = some (.lst ((ns.take 63).map V.int)) := by
    rw [h1, cut_upto (i := 63) (n := 63) rfl, List.map_take]
  refine ⟨q1, _, rfl, .inl (SqL.of h1), fun p hp => ?_⟩
  have S2 : Same H (upd H1 p (.lst ((ns.take 63).map V.int))) := S1.trans (Same.put (Same.refl H1) hp)
  have h2 : (upd H1 p (.lst ((ns.take 63).map V.int))) p = some (.lst ((ns.take 63).map V.int)) := upd_same
  have E2 : ∀ b o, b ≠ p → H1 b = some o → (upd H1 p (.lst ((ns.take 63).map V.int))) b = some o := fun b o hb e => by rw [upd_ne hb]; exact e
  have l2 : (ns.take 63).length ≤ 63 := by rw [List.length_take]; omega
  generalize upd H1 p (.lst ((ns.take 63).map V.int)) = H2 at S2 h2 E2 ⊢
  generalize ns.take 63 = d2 at h2 l2
  refine ⟨fun σ' H' => ∃ (kd : Int) (ds : List Int), σ' = [some (.ref a), some (.int m), some (.ref p), some (.int kd), none] ∧ H' p = some (.lst (ds.map V.int)) ∧ ds.length ≤ 63 ∧ ∀ b o, b ≠ p → H1 b = some o → H' b = some o, ?_, ?_⟩
  rotate_left
  · refine ⟨_, rfl, Nat.zero_le _, fun q3 H3 S3 h3 => ⟨p, q3, _, rfl, rfl, SqL.of (S3 _ _ h2), SqL.of h3, _, rfl, ?_⟩⟩
    have E3 : ∀ b o, b ≠ p → H1 b = some o → H3 b = some o := fun b o hb e => S3 _ _ (E2 b o hb e)
    refine ite2 (fun hc => ?_) (fun _ => ⟨0, d2, rfl, S3 _ _ h2, l2, E3⟩)
    cases d2 with
    | nil => exact absurd hc (by decide)
    | cons d ds =>
      refine ⟨_, rfl, p, _, _, _, rfl, rfl, SqL.of (S3 _ _ h2), atI_nat (j := 0) rfl, _, _, rfl, rfl, (by show (0 : Int) < 2; decide), ?_⟩
      refine ⟨_, rfl, p, _, _, _, rfl, rfl, SqL.of (S3 _ _ h2), atI_nat (j := 0) rfl, _, _, rfl, rfl, ⟨by decide, by decide⟩, _, rfl, p, _, _, 0, rfl, rfl, S3 _ _ h2, (by simp [ixN]), ?_⟩
      exact ⟨_, d / 2 :: ds, rfl, by rw [upd_same]; rfl, l2, fun b o hb e => by rw [upd_ne hb]; exact E3 b o hb e⟩
  rintro σ' H3 ⟨kd, ds, rfl, h3, l3, E3⟩
  clear h2 E2 S2 H2 l2 d2
  refine ⟨_, rfl, p, ds, rfl, SqL.of h3, _, _, rfl, rfl, (by show (0 : Int) < 2147483647; decide), _, _, rfl, rfl, ?_⟩
  have s0 := Int.emod_nonneg ds.sum (by decide : (2147483647 : Int) ≠ 0)
  have s1 := Int.emod_lt_of_pos ds.sum (by decide : (0 : Int) < 2147483647)
  refine ⟨fun n σ H' => ∃ (la : Int) (ds : List Int), n = 1000 - ds.length ∧ σ = [some (.ref a), some (.int m), some (.ref p), some (.int kd), some (.int la)] ∧ H' p = some (.lst (ds.map V.int)) ∧ ds.length ≤ 900 ∧ 0 ≤ la ∧ la < 4294967296 ∧ ∀ b o, b ≠ p → H1 b = some o → H' b = some o, ⟨_, _, ds, rfl, rfl, h3, by omega, by omega, by omega, E3⟩, ?_⟩
  rintro n σ H4 ⟨la, ds, rfl, rfl, h4, l4, a0, a1, E4⟩
  refine ⟨_, rfl, p, _, rfl, .inl (SqL.of h4), _, rfl, _, _, rfl, rfl, _, rfl, ?_⟩
  refine ite2 (fun hc => ?_) (fun hc => ?_)
  · have hc : ((ds.map V.int).length : Int) < m := of_decide_eq_true hc
    rw [List.length_map] at hc
    refine ⟨_, fun σ' H' z => z, ?_⟩
    refine ⟨_, rfl, _, rfl, _, _, rfl, rfl, .inl ⟨by omega, by omega⟩, _, rfl, _, _, rfl, rfl, .inl ⟨by decide, by decide⟩, _, _, rfl, rfl, _, rfl, p, _, rfl, .inl (SqL.of h4), _, _, rfl, rfl, _, _, rfl, rfl, (by show (0 : Int) < 2147483647; decide), ?_⟩
    have t0 := Int.emod_nonneg (la * la + 48271 * la + ((ds.map V.int).length : Int)) (by decide : (2147483647 : Int) ≠ 0)
    have t1 := Int.emod_lt_of_pos (la * la + 48271 * la + ((ds.map V.int).length : Int)) (by decide : (0 : Int) < 2147483647)
    refine ⟨_, rfl, _, rfl, _, _, rfl, rfl, .inl ⟨by omega, by omega⟩, _, rfl, _, _, rfl, rfl, .inl ⟨by decide, by decide⟩, _, _, rfl, rfl, _, _, rfl, rfl, _, _, rfl, rfl, (by show (0 : Int) < 2147483629; decide), ?_⟩
    refine ⟨_, rfl, .inl ⟨rfl, _, SqL.of h4⟩, _, rfl, p, _, _, rfl, rfl, h4, (Nat.lt_of_lt_of_le (by rw [List.length_map]; omega : (ds.map V.int).length < 1000) (by decide : 1000 ≤ sizeLine)), ?_⟩
    refine ⟨1000 - (ds.length + 1), by omega, _, ds ++ [_], by rw [List.length_append]; rfl, rfl, by rw [upd_same, List.map_append]; rfl, by rw [List.length_append]; show ds.length + 1 ≤ 900; omega, Int.emod_nonneg _ (by decide), Int.lt_trans (Int.emod_lt_of_pos _ (by decide)) (by decide), fun b o hb e => by rw [upd_ne hb]; exact E4 b o hb e⟩
  · refine ⟨_, rfl, (by show 1 ≤ sizeLine; decide), fun q5 H5 S5 h5 => ⟨_, rfl, p, _, rfl, S5 _ _ h4, fun q6 H6 S6 h6 => ⟨q5, q6, _, _, rfl, rfl, S6 _ _ h5, h6, ?_, fun pd hpd => ?_⟩⟩⟩
    · rw [List.length_reverse, List.length_map]
      exact Nat.le_trans (by show 1 + ds.length ≤ 1000; omega) (by decide)
    · have hpH : H p = none := by
        cases z : H p with
        | none => rfl
        | some o => rw [S1 p o z] at hp; cases hp
      refine k pd H6 _ (fun b o e => S6 _ _ (S5 _ _ (E4 b o (fun z => by rw [z, hpH] at e; cases e) (S1 b o e)))) hpd ⟨fun b o hb e => by rw [upd_ne hb]; exact e, kd, ds.reverse, ?_, by rw [List.length_reverse]; omega⟩
      rw [upd_same, List.map_cons, List.map_reverse]; rfl
end
end HN

/-! drawing off a deck. -/
namespace HN
open PySem L2 PyProof.Rows
abbrev sDrawD : Stmt := top 43
section
variable {P : Program} {w : World} {K : PySem.W.Frag} {mg : Str → Option Value} {base : Heap}
theorem scDrawD : FnScope ["_law_deck", "_law_most", "_law_number"] ["_law_deck", "_law_most"] (defScope sDrawD) := ⟨rfl, rfl, rfl, by decide +kernel, rfl, by decide +kernel, by decide +kernel⟩
theorem ok_drawD {f : Addr} {fd : FuncData} (F : Fun K "_law_draw" "_law_draw" sDrawD f fd) (T : Nm mg) : FnOk P w K mg base CX0 1 f fd ["_law_deck", "_law_most"] spDrawD := by
  refine F.ok scDrawD (fun vs H Q E h => by obtain ⟨p, m, rfl, _⟩ := h; rfl) (fun cdv A outer s H vs Q E hr h => ?_)
  obtain ⟨p, m, rfl, ⟨k0, ns, hp, hl⟩, h0, h1, k⟩ := h
  refine ⟨_, PSl.h (l_cons ⟨(ps_if (pt_cmpR op_eq (pe_callB call_len_seq rfl T.len PySem.boot_len (pa_cons (pv 0) pa_nil)) pe_int (nomark _)) (pss_one (ps_ret pe_int)) pss_nil)⟩
    (l_cons ⟨(ps_set (i := 2) scDrawD.nd rfl (Or.inl rfl) (pe_bm0 PySem.F.plainAttrs_list PySem.F.slot_list_pop PySem.F.type_list_pop mt_pop (pv 0)))⟩
    (l_cons ⟨(ps_cutK (ps_if (PW.pt (pw_and (pt_cmpR op_eq (pe_ix ix_list (pv 0) pe_int (fun _ _ => rfl)) pe_int (nomark _)) (pw_and1 (pt_cmpR op_ne (pe_op op_fdivB (pv 2) (pv 1)) pe_int (nomark _))))) (pss_one (ps_expr (pe_bm PySem.F.plainAttrs_list PySem.F.slot_list_append PySem.F.type_list_append mt_append (pv 0) (pa_cons (pe_op op_fdivB (pv 2) (pv 1)) pa_nil)))) pss_nil))⟩
    (l_one ⟨(ps_ret (pe_op op_mod (pv 2) (pv 1)))⟩)))), ?_⟩
  refine ⟨_, rfl, p, _, rfl, .inl (SqL.of hp), rfl, _, rfl, ?_⟩
  refine ite2 (fun _ => k 0 H (by omega) h0 (Md.refl ⟨k0, ns, hp, hl⟩)) (fun hc => ?_)
  have hne : ns ≠ [] := fun z => hc (by rw [z]; rfl)
  obtain ⟨n', n, rfl⟩ : ∃ n' n, ns = n' ++ [n] := ⟨ns.dropLast, ns.getLast hne, (List.dropLast_concat_getLast hne).symm⟩
  have hp0 : H p = some (.lst ((k0 :: n').map V.int ++ [V.int n])) := by rw [hp, ← List.cons_append, List.map_append]; rfl
  have hl' : n'.length + 1 ≤ 1000 := by rw [List.length_append] at hl; exact hl
  refine ⟨_, rfl, .inl ⟨rfl, _, SqL.of hp0⟩, p, _, V.int n, rfl, rfl, hp0, by rw [List.length_append, List.getElem?_append_right (by simp)]; simp, ?_⟩
  rw [List.dropLast_concat]
  have M1 : Md p H (upd H p (.lst ((k0 :: n').map V.int))) := ⟨fun b o hb e => by rw [upd_ne hb]; exact e, k0, n', upd_same, by omega⟩
  have hp1 : (upd H p (.lst ((k0 :: n').map V.int))) p = some (.lst ((k0 :: n').map V.int)) := upd_same
  generalize upd H p (.lst ((k0 :: n').map V.int)) = H1 at M1 hp1 ⊢
  refine ⟨fun σ' H' => σ' = [some (.ref p), some (.int m), some (.int n)] ∧ Md p H H', ?_, ?_⟩
  rotate_left
  · refine ⟨_, rfl, p, _, _, _, rfl, rfl, SqL.of hp1, atI_nat (j := 0) rfl, rfl, _, rfl, ?_⟩
    refine ite2 (fun _ => ?_) (fun _ => iteC rfl ⟨rfl, M1⟩)
    refine ⟨_, rfl, _, rfl, _, _, rfl, rfl, log_ok h0 h1, rfl, _, rfl, ?_⟩
    refine ite2 (fun _ => ?_) (fun _ => ⟨rfl, M1⟩)
    refine ⟨_, rfl, .inl ⟨rfl, _, SqL.of hp1⟩, _, rfl, _, rfl, _, _, rfl, rfl, log_ok h0 h1, ?_⟩
    refine ⟨p, _, _, rfl, rfl, hp1, (Nat.lt_of_lt_of_le (by rw [List.length_map, List.length_cons]; omega : ((k0 :: n').map V.int).length < 2000) (by decide : 2000 ≤ sizeLine)), rfl, ?_⟩
    refine ⟨fun b o hb e => by rw [upd_ne hb]; exact M1.1 b o hb e, k0, n' ++ [n / m], ?_, by rw [List.length_append]; exact hl'⟩
    rw [upd_same, ← List.cons_append, List.map_append]; rfl
  rintro σ' H2 ⟨rfl, M2⟩
  exact ⟨_, rfl, _, rfl, _, _, rfl, rfl, h0, k _ _ (Int.emod_nonneg _ (by omega)) (Int.emod_lt_of_pos _ h0) M2⟩
end
end HN

/-! spans off a deck. -/
namespace HN
open PySem L2 PyProof.Rows
abbrev sSpanD : Stmt := top 44
section
variable {P : Program} {w : World} {K : PySem.W.Frag} {mg : Str → Option Value} {base : Heap}
theorem scSpanD : FnScope ["_law_deck", "_law_beat", "_law_many", "_law_hidden", "_law_kept", "_law_start", "_law_goal", "_law_width", "_law_least", "_law_weight"] ["_law_deck", "_law_beat", "_law_many", "_law_hidden", "_law_kept"] (defScope sSpanD) := ⟨rfl, rfl, rfl, by decide +kernel, rfl, by decide +kernel, by decide +kernel⟩
theorem ok_spanD {f f1 : Addr} {fd fd1 : FuncData} (F : Fun K "_law_span" "_law_span" sSpanD f fd) (T : Nm mg) (G1 : Fn K mg "_law_draw" sDrawD ["_law_deck", "_law_most"] f1 fd1) : FnOk P w K mg base CX0 2 f fd ["_law_deck", "_law_beat", "_law_many", "_law_hidden", "_law_kept"] spSpanF := by
  have F1 : FnOk P w K mg base CX0 1 f1 fd1 ["_law_deck", "_law_most"] spDrawD := ok_drawD G1.F T
  refine F.ok scSpanD (fun vs H Q E h => by obtain ⟨p, h, b, m, hs, k, rfl, _⟩ := h; rfl) (fun cdv A outer s H vs Q E hr h => ?_)
  obtain ⟨p, h, b, m, hs, kp, rfl, hp, hb1, hb2, hm1, hm2, hh, hlh, k⟩ := h
  refine ⟨_, PSl.h (l_cons ⟨(ps_set (i := 5) scSpanD.nd rfl (Or.inl rfl) (pc1 G1 F1 hr (pa_cons (pv 0) (pa_cons (pv 2) pa_nil))))⟩
    (l_cons ⟨(ps_set (i := 6) scSpanD.nd rfl (Or.inl rfl) (pe_op op_mod (pe_op op_add (pe_op op_add (pv 5) pe_int) (pc1 G1 F1 hr (pa_cons (pv 0) (pa_cons (pe_op op_sub (pv 2) pe_int) pa_nil)))) (pv 2)))⟩
    (l_cons ⟨(ps_set (i := 7) scSpanD.nd rfl (Or.inl rfl) (pe_callB (call_min2 rfl) rfl T.min boot_min (pa_cons (pe_op op_sub (pv 1) pe_int) (pa_cons (PEs.h (k_ix ix_list (k_lstF (a_cons k_int (a_cons ⟨pc1 G1 F1 hr (pa_cons (pv 0) (pa_cons pe_int pa_nil))⟩ (a_cons ⟨pc1 G1 F1 hr (pa_cons (pv 0) (pa_cons (pv 1) pa_nil))⟩ (a_cons (k_op op_sub ⟨pv 1⟩ k_int) a_nil))))) ⟨pc1 G1 F1 hr (pa_cons (pv 0) (pa_cons pe_int pa_nil))⟩ (fun _ _ => rfl))) pa_nil))))⟩
    (l_cons ⟨(ps_set (i := 8) scSpanD.nd rfl (Or.inl rfl) (pc1 G1 F1 hr (pa_cons (pv 0) (pa_cons (pv 1) pa_nil))))⟩
    (l_cons ⟨(ps_cutK (ps_if (pt_val (pv 4)) (pss_one (ps_set (i := 8) scSpanD.nd rfl (Or.inl rfl) (pe_op op_mod (pe_op op_sub (pe_op op_sub (pe_ix ix_tup (pv 3) (pv 6) (fun _ _ => rfl)) (pe_ix ix_tup (pv 3) (pv 5) (fun _ _ => rfl))) (pc1 G1 F1 hr (pa_cons (pv 0) (pa_cons (pe_op op_add (pv 7) pe_int) pa_nil)))) (pv 1)))) pss_nil))⟩
    (l_cons ⟨(ps_set (i := 8) scSpanD.nd rfl (Or.inl rfl) (pe_op op_add (pv 8) (pe_op op_mul (pv 1) (PEs.h (k_ix ix_list (k_lstF (a_cons k_int (a_cons k_int (a_cons k_int (a_cons ⟨pc1 G1 F1 hr (pa_cons (pv 0) (pa_cons (pe_op op_pow pe_int pe_int) pa_nil))⟩ a_nil))))) ⟨pc1 G1 F1 hr (pa_cons (pv 0) (pa_cons pe_int pa_nil))⟩ (fun _ _ => rfl))))))⟩
    (l_cons ⟨(ps_set (i := 9) scSpanD.nd rfl (Or.inl rfl) (PEs.h (k_ix ix_list (k_lstF (a_cons k_int (a_cons k_int (a_cons ⟨pc1 G1 F1 hr (pa_cons (pv 0) (pa_cons pe_int pa_nil))⟩ (a_cons ⟨pc1 G1 F1 hr (pa_cons (pv 0) (pa_cons (pe_op op_add (pe_op op_pow pe_int pe_int) pe_int) pa_nil))⟩ a_nil))))) ⟨pc1 G1 F1 hr (pa_cons (pv 0) (pa_cons pe_int pa_nil))⟩ (fun _ _ => rfl))))⟩
    (l_one ⟨(ps_ret (pe_tupA (pa_cons (pv 5) (pa_cons (pv 6) (pa_cons (pv 8) (pa_cons (pe_op op_add (pv 8) (pv 7)) (pa_cons (pv 9) pa_nil)))))))⟩)))))))), ?_⟩
  -- start and goal
  refine ⟨_, rfl, _, rfl, p, m, rfl, hp, by omega, by omega, fun r1 H1 a1 c1 M1 => ?_⟩
  refine ⟨_, rfl, _, _, rfl, rfl, _, rfl, _, rfl, _, _, rfl, rfl, p, _, rfl, M1.2, by omega, by omega, fun r2 H2 a2 c2 M2 => ?_⟩
  have M2 := M1.trans M2
  refine ⟨_, _, rfl, rfl, _, rfl, _, _, rfl, rfl, (by show (0 : Int) < m; omega), ?_⟩
  obtain ⟨g0, g1, g2⟩ := goal_ok a1 c1 a2 c2
  -- width
  refine ⟨_, rfl, _, _, rfl, rfl, ?_⟩
  refine ⟨_, rfl, p, 4, rfl, M2.2, by decide, by decide, fun r7 H7 a7 c7 M7 => ?_⟩
  have M7 := M2.trans M7
  refine ⟨_, rfl, _, rfl, p, b, rfl, M7.2, by omega, by omega, fun r8 H8 a8 c8 M8 => ?_⟩
  have M8 := M7.trans M8
  refine ⟨_, rfl, _, _, rfl, rfl, (by show 4 ≤ sizeLine; decide), fun q9 hq9 => ?_⟩
  have nq9 := M8.2.ne hq9
  have S9 : Same H8 (upd H8 q9 (.lst [.int 0, .int r7, .int r8, .int (b - 1)])) := Same.put (Same.refl H8) hq9
  have h9 : (upd H8 q9 (.lst [.int 0, .int r7, .int r8, .int (b - 1)])) q9 = some (.lst [.int 0, .int r7, .int r8, .int (b - 1)]) := upd_same
  have M9 := M8.then S9
  refine ⟨_, rfl, p, 4, rfl, M9.2, by decide, by decide, fun rA HA aA cA MA => ?_⟩
  have hA := MA.at h9 nq9
  have MA := M9.trans MA
  clear M9 S9 h9
  obtain ⟨vA, eA, mA⟩ := atI_in (xs := [V.int 0, V.int r7, V.int r8, V.int (b - 1)]) aA cA
  obtain ⟨w0, rfl, w00⟩ : ∃ i, vA = V.int i ∧ 0 ≤ i := by
    simp only [List.mem_cons, List.not_mem_nil, or_false] at mA
    rcases mA with rfl | rfl | rfl | rfl
    · exact ⟨_, rfl, by decide⟩
    · exact ⟨_, rfl, a7⟩
    · exact ⟨_, rfl, a8⟩
    · exact ⟨_, rfl, by omega⟩
  refine ⟨q9, _, _, _, rfl, rfl, SqL.of hA, eA, _, _, rfl, ?_⟩
  obtain ⟨wd, hwd, wd0, wd1⟩ : ∃ wd, wd = (if w0 < b - 1 then w0 else b - 1) ∧ 0 ≤ wd ∧ wd < b := ⟨_, rfl, by split <;> omega, by split <;> omega⟩
  -- least
  refine ⟨_, rfl, _, rfl, p, b, rfl, MA.2, by omega, by omega, fun rB HB aB cB MB => ?_⟩
  have MB := MA.trans MB
  show ∃ _, _
  rw [show (V.int (if w0 < b - 1 then w0 else b - 1)) = V.int wd from congrArg V.int hwd.symm]
  refine ⟨fun σ' H' => Md p H H' ∧ ∃ l, 0 ≤ l ∧ l < b ∧ σ' = [some (.ref p), some (.int b), some (.int m), some (.ref h), some (.bl kp), some (.int r1), some (.int ((r1 + 1 + r2) % m)), some (.int wd), some (.int l), none], ?_, ?_⟩
  rotate_left
  · refine ⟨_, rfl, _, rfl, ?_⟩
    refine ite2 (fun _ => ?_) (fun _ => ⟨MB, rB, aB, cB, rfl⟩)
    have hhB : HB h = some (.tup (hs.map V.int)) := Md.tupK hp MB _ _ hh
    obtain ⟨vg, eg, mg'⟩ := atI_in (xs := hs.map V.int) (r := (r1 + 1 + r2) % m) g0 (by rw [List.length_map]; omega)
    obtain ⟨ig, _, rfl⟩ := List.mem_map.mp mg'
    obtain ⟨vs, es, ms⟩ := atI_in (xs := hs.map V.int) (r := r1) a1 (by rw [List.length_map]; omega)
    obtain ⟨is, _, rfl⟩ := List.mem_map.mp ms
    refine ⟨_, rfl, _, rfl, h, _, _, _, rfl, rfl, SqT.of hhB, eg, _, rfl, _, rfl, h, _, _, _, rfl, rfl, SqT.of hhB, es, _, _, rfl, rfl, _, rfl, _, rfl, _, _, rfl, rfl, p, _, rfl, MB.2, by omega, by omega, fun rC HC aC cC MC => ⟨_, _, rfl, rfl, _, rfl, _, _, rfl, rfl, (by show (0 : Int) < b; omega), ?_⟩⟩
    exact ⟨MB.trans MC, _, Int.emod_nonneg _ (by omega), Int.emod_lt_of_pos _ (by omega), rfl⟩
  rintro σ' HC ⟨MC, l, l0, l1, rfl⟩
  refine ⟨_, rfl, _, rfl, _, rfl, _, _, rfl, rfl, ⟨by decide, by decide, by decide⟩, p, _, rfl, MC.2, by decide, by decide, fun rD HD aD cD MD => ⟨(by show 4 ≤ sizeLine; decide), fun qE hqE => ?_⟩⟩
  have MD := MC.trans MD
  have cD : rD < 10 ^ 9 := cD
  have nqE := MD.2.ne hqE
  have SE : Same HD (upd HD qE (.lst [.int 0, .int 0, .int 1, .int rD])) := Same.put (Same.refl HD) hqE
  have hE : (upd HD qE (.lst [.int 0, .int 0, .int 1, .int rD])) qE = some (.lst [.int 0, .int 0, .int 1, .int rD]) := upd_same
  have ME := MD.then SE
  refine ⟨_, rfl, p, 4, rfl, ME.2, by decide, by decide, fun rF HF aF cF MF => ?_⟩
  have hF := MF.at hE nqE
  have MF := ME.trans MF
  clear ME SE hE
  obtain ⟨vF, eF, mF⟩ := atI_in (xs := [V.int 0, V.int 0, V.int 1, V.int rD]) aF cF
  obtain ⟨n, rfl, n0, n1⟩ : ∃ i, vF = V.int i ∧ 0 ≤ i ∧ i ≤ 10 ^ 9 := by
    simp only [List.mem_cons, List.not_mem_nil, or_false] at mF
    rcases mF with rfl | rfl | rfl | rfl
    · exact ⟨_, rfl, by decide, by decide⟩
    · exact ⟨_, rfl, by decide, by decide⟩
    · exact ⟨_, rfl, by decide, by decide⟩
    · exact ⟨_, rfl, by omega, by omega⟩
  refine ⟨qE, _, _, _, rfl, rfl, SqL.of hF, eF, _, _, rfl, rfl, .inr ⟨by omega, by omega⟩, _, _, rfl, rfl, ?_⟩
  have bn0 : 0 ≤ b * n := Int.mul_nonneg (by omega) n0
  have bn1 : b * n ≤ 10 ^ 33 * 10 ^ 9 := Int.mul_le_mul hb2 n1 n0 (by decide)
  -- weight
  refine ⟨_, rfl, p, 10, rfl, MF.2, by decide, by decide, fun rH HH aH cH MH => ?_⟩
  have MH := MF.trans MH
  refine ⟨_, rfl, _, _, rfl, rfl, ⟨by decide, by decide, by decide⟩, _, _, rfl, rfl, p, _, rfl, MH.2, by decide, by decide, fun rI HI aI cI MI => ⟨(by show 4 ≤ sizeLine; decide), fun qJ hqJ => ?_⟩⟩
  have MI := MH.trans MI
  have cI : rI < 10 ^ 12 + 1 := cI
  have nqJ := MI.2.ne hqJ
  have SJ : Same HI (upd HI qJ (.lst [.int 0, .int 1, .int rH, .int rI])) := Same.put (Same.refl HI) hqJ
  have hJ : (upd HI qJ (.lst [.int 0, .int 1, .int rH, .int rI])) qJ = some (.lst [.int 0, .int 1, .int rH, .int rI]) := upd_same
  have MJ := MI.then SJ
  refine ⟨_, rfl, p, 4, rfl, MJ.2, by decide, by decide, fun rK HK aK cK MK => ?_⟩
  have hK := MK.at hJ nqJ
  have MK := MJ.trans MK
  clear MJ SJ hJ
  obtain ⟨vK, eK, mK⟩ := atI_in (xs := [V.int 0, V.int 1, V.int rH, V.int rI]) aK cK
  obtain ⟨wt, rfl, t0, t1⟩ : ∃ i, vK = V.int i ∧ 0 ≤ i ∧ i ≤ 1000000000000 := by
    simp only [List.mem_cons, List.not_mem_nil, or_false] at mK
    rcases mK with rfl | rfl | rfl | rfl
    · exact ⟨_, rfl, by decide, by decide⟩
    · exact ⟨_, rfl, by decide, by decide⟩
    · exact ⟨_, rfl, by omega, by omega⟩
    · exact ⟨_, rfl, by omega, by omega⟩
  refine ⟨qJ, _, _, _, rfl, rfl, SqL.of hK, eK, ?_⟩
  refine ⟨_, rfl, _, rfl, _, rfl, _, rfl, _, rfl, _, _, rfl, rfl, _, rfl, (by show 5 ≤ sizeLine; decide), fun t HL SL hL => ?_⟩
  exact k t ⟨r1, (r1 + 1 + r2) % m, l + b * n, l + b * n + wd, wt⟩ HL (MK.then SL) hL ⟨⟨a1, c1, g0, g1, g2, by show 0 ≤ l + b * n; omega, by show l + b * n ≤ l + b * n + wd; omega, by show l + b * n + wd < l + b * n + b; omega, by show l + b * n + wd < 10 ^ 60; omega, t0, t1⟩, by show l + b * n + wd < 10 ^ 45; omega⟩
end
end HN

/-! nets off a deck. -/
namespace HN
open PySem L2 PyProof.Rows
abbrev sNetD : Stmt := top 45
section
variable {P : Program} {w : World} {K : PySem.W.Frag} {mg : Str → Option Value} {base : Heap}
theorem scNetD : FnScope ["_law_deck", "_law_most", "_law_beats", "_law_size", "_law_great", "_law_many", "_law_beat", "_law_hidden", "_law_kept", "_law_spans", "_law_k"] ["_law_deck", "_law_most", "_law_beats", "_law_size", "_law_great"] (defScope sNetD) := ⟨rfl, rfl, rfl, by decide +kernel, rfl, by decide +kernel, by decide +kernel⟩
theorem ok_netD {f f1 f2 : Addr} {fd fd1 fd2 : FuncData} (F : Fun K "_law_net" "_law_net" sNetD f fd) (T : Nm mg) (T2 : Nt mg) (G1 : Fn K mg "_law_draw" sDrawD ["_law_deck", "_law_most"] f1 fd1) (G2 : Fn K mg "_law_span" sSpanD ["_law_deck", "_law_beat", "_law_many", "_law_hidden", "_law_kept"] f2 fd2) : FnOk P w K mg base CX0 3 f fd ["_law_deck", "_law_most", "_law_beats", "_law_size", "_law_great"] spNetF := by
  have F1 : FnOk P w K mg base CX0 1 f1 fd1 ["_law_deck", "_law_most"] spDrawD := ok_drawD G1.F T
  have F2 : FnOk P w K mg base CX0 2 f2 fd2 ["_law_deck", "_law_beat", "_law_many", "_law_hidden", "_law_kept"] spSpanF := ok_spanD G2.F T G1
  refine F.ok scNetD (fun vs H Q E h => by obtain ⟨p, a, c, s, g, rfl, _⟩ := h; rfl) (fun cdv A outer s H vs Q E hr h => ?_)
  obtain ⟨p, a, c, s0, g, rfl, hp, a1, a2, c1, c2, s1, s2, g1, g2, k⟩ := h
  have hr1 : Room 1 _ := hr.mono (by decide)
  refine ⟨_, PSl.h (l_cons ⟨(ps_set (i := 5) scNetD.nd rfl (Or.inl rfl) (pe_op op_add pe_int (pc1 G1 F1 hr1 (pa_cons (pv 0) (pa_cons (pv 1) pa_nil)))))⟩
    (l_cons ⟨(ps_set (i := 6) scNetD.nd rfl (Or.inr rfl) (pe_op op_add pe_int (pc1 G1 F1 hr1 (pa_cons (pv 0) (pa_cons (pv 2) pa_nil)))))⟩
    (l_cons ⟨(ps_cutK (ps_if (pt_cmpR op_eq (pc1 G1 F1 hr1 (pa_cons (pv 0) (pa_cons pe_int pa_nil))) pe_int (nomark _)) (pss_one (ps_set (i := 6) scNetD.nd rfl (Or.inr rfl) (pe_op op_mul (pv 6) (pe_op op_add pe_int (pc1 G1 F1 hr1 (pa_cons (pv 0) (pa_cons (pv 4) pa_nil))))))) pss_nil))⟩
    (l_cons ⟨(ps_set (i := 7) scNetD.nd rfl (Or.inl rfl) (pe_callTy call_tupA rfl T.ttup boot_tuple (pa_cons (pe_comp (fr := ["_law_deck", "_law_beat"]) (js := [0, 6]) rfl (pi_range1 rfl T2.range (pa_cons (pv 5) pa_nil)) (by decide +kernel) rfl (by decide +kernel) rfl (by show ∀ y : Str × NameKind, y ∈ _ → y.2 = NameKind.free → List.lookup y.1 (defScope sNetD).names = some NameKind.cell; decide +kernel) (by decide +kernel) rfl (by decide +kernel) (fun _ _ _ _ _ => ⟨(pc1 G1 F1 hr1 (pa_cons (pv 1) (pa_cons (pv 2) pa_nil))), pts_nil⟩)) pa_nil)))⟩
    (l_cons ⟨(ps_set (i := 8) scNetD.nd rfl (Or.inl rfl) (pe_cmpR op_eq (pc1 G1 F1 hr1 (pa_cons (pv 0) (pa_cons pe_int pa_nil))) pe_int (nomark _)))⟩
    (l_cons ⟨(ps_set (i := 9) scNetD.nd rfl (Or.inl rfl) (pe_lst pa_nil))⟩
    (l_cons ⟨(ps_cutK (ps_if (pt_cmpR op_gt (pv 5) pe_int (nomark _)) (pss_one (ps_for PassesOwn.never rfl (pi_range1 rfl T2.range (pa_cons (pc1 G1 F1 hr1 (pa_cons (pv 0) (pa_cons (pe_op op_add (pv 3) pe_int) pa_nil))) pa_nil)) (pg_name (i := 10) scNetD.nd rfl (Or.inl rfl)) (pss_one (ps_expr (pe_bm PySem.F.plainAttrs_list PySem.F.slot_list_append PySem.F.type_list_append mt_append (pv 9) (pa_cons (pc1 G2 F2 hr (pa_cons (pv 0) (pa_cons (pv 6) (pa_cons (pv 5) (pa_cons (pv 7) (pa_cons (pv 8) pa_nil)))))) pa_nil)))))) pss_nil))⟩
    (l_one ⟨(ps_ret (pe_tupA (pa_cons (pe_tupA (pa_cons (pv 6) (pa_cons (pv 5) (pa_cons (pe_callTy call_tupA rfl T.ttup boot_tuple (pa_cons (pv 9) pa_nil)) pa_nil)))) (pa_cons (pv 7) pa_nil))))⟩)))))))), ?_⟩
  refine ⟨_, rfl, _, rfl, p, a, rfl, hp, by omega, by omega, fun r1 H1 r10 r11 M1 => ⟨_, _, rfl, rfl, ?_⟩⟩
  refine ⟨_, rfl, _, rfl, p, c, rfl, M1.2, by omega, by omega, fun r2 H2 r20 r21 M2 => ⟨_, _, rfl, rfl, ?_⟩⟩
  have M2 := M1.trans M2
  refine ⟨fun σ' H' => Md p H H' ∧ ∃ b, 1 ≤ b ∧ b ≤ 10 ^ 33 ∧ σ' = [some (.ref p), some (.int a), some (.int c), some (.int s0), some (.int g), some (.int (1 + r1)), some (.int b), none, none, none, none], ?_, ?_⟩
  rotate_left
  · refine ⟨_, rfl, p, 5, rfl, M2.2, by decide, by decide, fun r3 H3 r30 r31 M3 => ⟨rfl, _, rfl, ?_⟩⟩
    have M3 := M2.trans M3
    refine ite2 (fun _ => ?_) (fun _ => ⟨M3, 1 + r2, by omega, by omega, rfl⟩)
    refine ⟨_, rfl, _, rfl, _, rfl, p, g, rfl, M3.2, by omega, by omega, fun r4 H4 r40 r41 M4 => ⟨_, _, rfl, rfl, _, _, rfl, rfl, .inl ⟨by omega, by omega⟩, ?_⟩⟩
    refine ⟨M3.trans M4, _, ?_, ?_, rfl⟩
    · have : 1 * 1 ≤ (1 + r2) * (1 + r4) := Int.mul_le_mul (by omega) (by omega) (by decide) (by omega)
      omega
    · have : (1 + r2) * (1 + r4) ≤ 100 * (10 ^ 30) := Int.mul_le_mul (by omega) (by omega) (by omega) (by decide)
      omega
  rintro σ' H3 ⟨M3, b, b1, b2, rfl⟩
  -- the hidden table
  refine ⟨_, rfl, 1 + r1, rfl, by omega, by omega, ?_⟩
  refine comp_range (n := (1 + r1).toNat) (fun i zs H4 => Md p H H4 ∧ ∃ hs : List Int, zs = hs.map V.int ∧ hs.length = i ∧ ∀ x ∈ hs, 0 ≤ x ∧ x < b) ⟨M3, [], rfl, rfl, fun _ h => absurd h (by simp)⟩ (fun i zs H4 _ ⟨_, hs, e, hl, _⟩ => by rw [e, List.length_map, hl]; exact Nat.le_refl _) (small_le (by omega)) (fun i zs H4 hi ⟨M4, hs, e4, hl4, all4⟩ => ?_) (fun zs H4 ⟨M4, hs, e4, hl4, all4⟩ D hD => ?_)
  · refine tNoIf_go ?_
    refine ⟨_, rfl, _, rfl, p, b, rfl, M4.2, by omega, by omega, fun r5 H5 r50 r51 M5 => ⟨M4.trans M5, hs ++ [r5], by rw [e4, List.map_append]; rfl, by rw [List.length_append, hl4]; rfl, fun x hx => ?_⟩⟩
    rcases List.mem_append.mp hx with hx | hx
    · exact all4 x hx
    · rw [List.mem_singleton.mp hx]; exact ⟨r50, r51⟩
  subst e4
  have S5 := Same.put (o := .lst (hs.map V.int)) (Same.refl H4) hD
  have hD5 : (upd H4 D (.lst (hs.map V.int))) D = some (.lst (hs.map V.int)) := upd_same
  generalize upd H4 D (.lst (hs.map V.int)) = H5 at S5 hD5 ⊢
  refine ⟨D, _, rfl, SqL.of hD5, fun h H6 S6 h6 => ?_⟩
  have M6 := M4.then (S5.trans S6)
  clear S5 S6 hD5 hD M4
  have hlh : (hs.length : Int) = 1 + r1 := by omega
  refine ⟨_, rfl, p, 2, rfl, M6.2, by decide, by decide, fun r7 H7 _ _ M7 => ⟨rfl, ?_⟩⟩
  have h7 := Md.tupK M6.2 M7 _ _ h6
  have M7 := M6.trans M7
  clear M6 h6
  obtain ⟨kp, hkp⟩ : ∃ kp : Bool, kp = decide (V.int r7 = V.int 1) := ⟨_, rfl⟩
  -- the spans
  refine ⟨Nat.zero_le _, fun Ls hLs => ?_⟩
  have hLsp := M7.2.ne hLs
  have hLsH : H Ls = none := by
    cases z : H Ls with
    | none => rfl
    | some o => rw [M7.1 Ls o hLsp z] at hLs; cases hLs
  have S8 : Same H7 (upd H7 Ls (.lst [])) := Same.put (Same.refl H7) hLs
  have hLs8 : (upd H7 Ls (.lst [])) Ls = some (.lst []) := upd_same
  generalize upd H7 Ls (.lst []) = H8 at S8 hLs8 ⊢
  have M8 := M7.then S8
  have h8 := S8 _ _ h7
  clear M7 h7 S8
  refine ⟨fun σ' H' => Md p H H' ∧ H' h = some (.tup (hs.map V.int)) ∧ ∃ (v8 vk : Option V) (zs : List V) (sp : List Sn), σ' = [some (.ref p), some (.int a), some (.int c), some (.int s0), some (.int g), some (.int (1 + r1)), some (.int b), some (.ref h), v8, some (.ref Ls), vk] ∧ H' Ls = some (.lst zs) ∧ IsDs H' zs (rowsD Sn.row sp) ∧ sp.length ≤ 40 ∧ ∀ z ∈ sp, SnF b (1 + r1) z, ?_, ?_⟩
  rotate_left
  · refine ⟨_, rfl, _, _, rfl, rfl, _, rfl, ?_⟩
    refine ite2 (fun hm => ?_) (fun _ => ⟨M8, h8, _, none, [], [], rfl, hLs8, .nil, by simp, fun _ h => absurd h (by simp)⟩)
    have hm : 1 + r1 > 1 := of_decide_eq_true hm
    refine ⟨_, rfl, _, rfl, _, _, rfl, rfl, p, _, rfl, M8.2, by omega, by omega, fun r9 H9 r90 r91 M9 => ⟨r9, rfl, by omega, by omega, ?_⟩⟩
    have h9 := Md.tupK M8.2 M9 _ _ h8
    have hLs9 := M9.at hLs8 hLsp
    have M9 := M8.trans M9
    refine for_range (n := r9.toNat) (fun i σ H' => Md p H H' ∧ H' h = some (.tup (hs.map V.int)) ∧ ∃ (vk : Option V) (zs : List V) (sp : List Sn), σ = [some (.ref p), some (.int a), some (.int c), some (.int s0), some (.int g), some (.int (1 + r1)), some (.int b), some (.ref h), some (.bl (decide (V.int r7 = V.int 1))), some (.ref Ls), vk] ∧ H' Ls = some (.lst zs) ∧ IsDs H' zs (rowsD Sn.row sp) ∧ sp.length = i ∧ ∀ z ∈ sp, SnF b (1 + r1) z) ⟨M9, h9, none, [], [], rfl, hLs9, .nil, rfl, fun _ h => absurd h (by simp)⟩ ?_ ?_
    · rintro i σ HA hi ⟨MA, hA, vk, zs, sp, rfl, hLsA, dA, lA, allA⟩
      refine ⟨_, rfl, .inl ⟨rfl, _, SqL.of hLsA⟩, _, rfl, _, rfl, _, rfl, _, rfl, _, rfl, p, h, b, 1 + r1, hs, _, rfl, MA.2, b1, b2, by omega, by omega, hA, hlh, fun t z HB MB hB okB => ?_⟩
      have KB := Md.tupK MA.2 MB
      have hLsB := MB.at hLsA hLsp
      have MB := MA.trans MB
      have lz : zs.length = sp.length := by rw [dA.length, List.length_map]
      refine ⟨Ls, zs, _, rfl, rfl, hLsB, (Nat.lt_of_lt_of_le (by omega : zs.length < 1000) (by decide : 1000 ≤ sizeLine)), ?_⟩
      have KC : TupK HB (upd HB Ls (.lst (zs ++ [.ref t]))) := tupK_upd hLsB
      refine ⟨⟨fun q o hq e => ?_, ?_⟩, KC _ _ (KB _ _ hA), _, zs ++ [.ref t], sp ++ [z], rfl, upd_same, ?_, by rw [List.length_append, lA]; rfl, fun z' hz' => ?_⟩
      · rw [upd_ne (fun z => by rw [z, hLsH] at e; cases e)]
        exact MB.1 q o hq e
      · obtain ⟨k1, n1, e1, e2⟩ := MB.2
        exact ⟨k1, n1, by rw [upd_ne hLsp.symm]; exact e1, e2⟩
      · unfold rowsD
        rw [List.map_append]
        exact (rows_keep (KB.trans KC) dA).append (.cons (.tup (KC _ _ hB) (IsDs.ints z.row)) .nil)
      · rcases List.mem_append.mp hz' with hz' | hz'
        · exact allA z' hz'
        · rw [List.mem_singleton.mp hz']; exact okB
    · rintro σ HA ⟨MA, hA, vk, zs, sp, rfl, hLsA, dA, lA, allA⟩
      exact ⟨MA, hA, _, vk, zs, sp, rfl, hLsA, dA, by omega, allA⟩
  rintro σ' HA ⟨MA, hA, v8, vk, zs, sp, rfl, hLsA, dA, lA, allA⟩
  refine ⟨_, rfl, _, rfl, _, rfl, Ls, _, rfl, SqL.of hLsA, fun qB HB SB hB => ⟨(by show 3 ≤ sizeLine; decide), fun tC HC SC hC => ⟨_, rfl, (by show 2 ≤ sizeLine; decide), fun tD HD SD hD' => ?_⟩⟩⟩
  have SBD := SB.trans (SC.trans SD)
  exact k tD (.ref tC) h b (1 + r1) sp hs HD (MA.then SBD) hD' (.tup (SD _ _ hC) (.cons (.int b) (.cons (.int _) (.cons (.tup (SD _ _ (SC _ _ hB)) (dA.same SBD)) .nil)))) ⟨b1, by omega, by omega, by omega, lA, fun z hz => (allA z hz).1⟩ b2 (SBD _ _ hA) hlh all4 fun z hz => (allA z hz).2
end
end HN

/-! an order off a deck. -/
namespace HN
open PySem L2 PyProof.Rows
abbrev sOrderL : Stmt := top 50
theorem map_erase {α β : Type} (f : α → β) : ∀ (l : List α) (i : Nat), (l.map f).eraseIdx i = (l.eraseIdx i).map f
  | [], _ => rfl
  | _ :: _, 0 => rfl
  | a :: l, i + 1 => by
    show f a :: (l.map f).eraseIdx i = f a :: (l.eraseIdx i).map f
    rw [map_erase f l i]
section
variable {P : Program} {w : World} {K : PySem.W.Frag} {mg : Str → Option Value} {base : Heap}
theorem scOrderL : FnScope ["_law_deck", "_law_many", "_law_left", "_law_order_here", "_law_k"] ["_law_deck", "_law_many"] (defScope sOrderL) := ⟨rfl, rfl, rfl, by decide +kernel, rfl, by decide +kernel, by decide +kernel⟩
theorem ok_orderL {f f1 : Addr} {fd fd1 : FuncData} (F : Fun K "_law_order" "_law_order" sOrderL f fd) (T : Nm mg) (T2 : Nt mg) (G1 : Fn K mg "_law_draw" sDrawD ["_law_deck", "_law_most"] f1 fd1) : FnOk P w K mg base CX0 2 f fd ["_law_deck", "_law_many"] spOrderL := by
  have F1 : FnOk P w K mg base CX0 1 f1 fd1 ["_law_deck", "_law_most"] spDrawD := ok_drawD G1.F T
  refine F.ok scOrderL (fun vs H Q E h => by obtain ⟨p, n, rfl, _⟩ := h; rfl) (fun cdv A outer s H vs Q E hr h => ?_)
  obtain ⟨p, n, rfl, hp, hn, k⟩ := h
  refine ⟨_, PSl.h (l_cons ⟨(ps_set (i := 2) scOrderL.nd rfl (Or.inl rfl) (pe_callTy (call_listR rfl) rfl T2.tlist boot_list (pa_cons (pe_callTy call_rng1 rfl T2.range boot_range (pa_cons (pv 1) pa_nil)) pa_nil)))⟩
    (l_cons ⟨(ps_set (i := 3) scOrderL.nd rfl (Or.inl rfl) (pe_lst pa_nil))⟩
    (l_cons ⟨(ps_for PassesOwn.never rfl (pi_range1 rfl T2.range (pa_cons (pv 1) pa_nil)) (pg_name (i := 4) scOrderL.nd rfl (Or.inl rfl)) (pss_one (ps_expr (pe_bm PySem.F.plainAttrs_list PySem.F.slot_list_append PySem.F.type_list_append mt_append (pv 3) (pa_cons (pe_bm PySem.F.plainAttrs_list PySem.F.slot_list_pop PySem.F.type_list_pop mt_popAt (pv 2) (pa_cons (pc1 G1 F1 hr (pa_cons (pv 0) (pa_cons (pe_callB call_len_seq rfl T.len PySem.boot_len (pa_cons (pv 2) pa_nil)) pa_nil))) pa_nil)) pa_nil)))))⟩
    (l_one ⟨(ps_ret (pe_callTy call_tupA rfl T.ttup boot_tuple (pa_cons (pv 3) pa_nil)))⟩)))), ?_⟩
  refine ⟨_, rfl, (n : Int), rfl, fun q1 H1 S1 h1 => ?_⟩
  refine ⟨q1, n, rfl, h1, by omega, fun Lf hLf => ?_⟩
  have nLf : Lf ≠ p := (hp.same S1).ne hLf
  have fLf : H Lf = none := S1.free hLf
  have S2 : Same H (upd H1 Lf (.lst ((List.range n).map fun (k : Nat) => V.int (k : Int)))) := S1.put hLf
  have h2 : (upd H1 Lf (.lst ((List.range n).map fun (k : Nat) => V.int (k : Int)))) Lf = some (.lst ((rgI n).map V.int)) := by
    rw [upd_same]; unfold rgI; rw [List.map_map]; rfl
  generalize upd H1 Lf (.lst ((List.range n).map fun (k : Nat) => V.int (k : Int))) = H2 at S2 h2 ⊢
  refine ⟨Nat.zero_le _, fun Lo hLo => ?_⟩
  have nLo : Lo ≠ p := (hp.same S2).ne hLo
  have fLo : H Lo = none := S2.free hLo
  have nLL : Lo ≠ Lf := fun z => by rw [z, h2] at hLo; cases hLo
  have S3 : Same H (upd H2 Lo (.lst [])) := S2.put hLo
  have h3 : (upd H2 Lo (.lst [])) Lo = some (.lst []) := upd_same
  have h3f : (upd H2 Lo (.lst [])) Lf = some (.lst ((rgI n).map V.int)) := by rw [upd_ne nLL.symm]; exact h2
  generalize upd H2 Lo (.lst []) = H3 at S3 h3 h3f ⊢
  have M3 : Md p H H3 := ⟨fun b o _ e => S3 _ _ e, hp.same S3⟩
  refine ⟨_, rfl, (n : Int), rfl, by omega, by omega, ?_⟩
  refine for_range (n := ((n : Int)).toNat) (fun i σ H4 => Md p H H4 ∧ ∃ (acc left : List Int) (vk : Option V), σ = [some (.ref p), some (.int (n : Int)), some (.ref Lf), some (.ref Lo), vk] ∧ H4 Lf = some (.lst (left.map V.int)) ∧ H4 Lo = some (.lst (acc.map V.int)) ∧ (acc ++ left).Perm (rgI n) ∧ acc.length = i ∧ left.length = n - i) ⟨M3, [], rgI n, none, rfl, h3f, h3, List.Perm.refl _, rfl, rgI_len n⟩ ?_ ?_
  · rintro i σ H4 hi ⟨M4, acc, left, vk, rfl, hF, hO, hP, hA, hB⟩
    have hi' : i < n := by omega
    refine ⟨_, rfl, .inl ⟨rfl, _, SqL.of hO⟩, _, rfl, .inl ⟨rfl, _, SqL.of hF⟩, _, rfl, _, rfl, Lf, _, rfl, .inl (SqL.of hF), p, _, rfl, M4.2, by rw [List.length_map]; omega, by rw [List.length_map]; omega, fun r H5 r0 r1 M5 => ?_⟩
    rw [List.length_map] at r1
    have hF5 := M5.at hF nLf
    have hO5 := M5.at hO nLo
    have M5 := M4.trans M5
    have hr5 : r.toNat < left.length := by omega
    refine ⟨Lf, _, r, r.toNat, V.int left[r.toNat], rfl, rfl, hF5, by omega, by omega, PySem.seqIndex_of r0 (by rw [List.length_map]; exact r1), by rw [List.getElem?_map, List.getElem?_eq_getElem hr5]; rfl, ?_⟩
    refine ⟨Lo, acc.map V.int, _, rfl, rfl, by rw [upd_ne nLL]; exact hO5, (Nat.lt_of_lt_of_le (by rw [List.length_map]; omega : (acc.map V.int).length < 1000) (by decide : 1000 ≤ sizeLine)), ?_⟩
    refine ⟨⟨fun q o hq e => ?_, ?_⟩, acc ++ [left[r.toNat]], left.eraseIdx r.toNat, _, rfl, ?_, ?_, ?_, ?_, ?_⟩
    · rw [upd_ne (fun z => by rw [z, fLo] at e; cases e), upd_ne (fun z => by rw [z, fLf] at e; cases e)]
      exact M5.1 q o hq e
    · obtain ⟨k1, n1, e1, e2⟩ := M5.2
      exact ⟨k1, n1, by rw [upd_ne nLo.symm, upd_ne nLf.symm]; exact e1, e2⟩
    · rw [upd_ne nLL.symm, upd_same, map_erase]
    · rw [upd_same, List.map_append]; rfl
    · rw [List.append_assoc]
      exact ((pop_perm left r.toNat _ (List.getElem?_eq_getElem hr5)).append_left acc).trans hP
    · rw [List.length_append, hA]; rfl
    · rw [List.length_eraseIdx, if_pos hr5]; omega
  · rintro σ H4 ⟨M4, acc, left, vk, rfl, hF, hO, hP, hA, hB⟩
    have e0 : left = [] := List.length_eq_zero_iff.mp (by omega)
    subst e0
    rw [List.append_nil] at hP
    exact ⟨_, rfl, Lo, _, rfl, SqL.of hO, fun u H5 S5 h5 => k u acc H5 (M4.then S5) h5 hP⟩
end
end HN

/-! waits of a table. -/
namespace HN
open PySem L2 PyProof.Rows
abbrev sRest : Stmt := top 21
abbrev sWaitIn : Stmt := top 22
abbrev sWaits : Stmt := top 23
section
variable {P : Program} {w : World} {K : PySem.W.Frag} {mg : Str → Option Value} {base : Heap}
theorem scRest : FnScope ["beat", "number"] ["beat", "number"] (defScope sRest) := ⟨rfl, rfl, rfl, by decide +kernel, rfl, by decide +kernel, by decide +kernel⟩
theorem ok_rest {f : Addr} {fd : FuncData} (F : Fun K "rest_by" "rest_by" sRest f fd) : FnOk P w K mg base CX0 1 f fd ["beat", "number"] spRest := by
  refine F.ok scRest (fun vs H Q E h => by obtain ⟨b, n, rfl, _⟩ := h; rfl) (fun cdv A outer s H vs Q E hr h => ?_)
  obtain ⟨b, n, rfl, hb, k⟩ := h
  refine ⟨_, PSl.h (l_one ⟨(ps_ret (pe_op op_mod (pv 1) (pv 0)))⟩), ?_⟩
  exact ⟨_, rfl, _, rfl, _, _, rfl, rfl, hb, k⟩
theorem scWaitIn : FnScope ["net", "table", "span", "start", "goal", "least"] ["net", "table", "span"] (defScope sWaitIn) := ⟨rfl, rfl, rfl, by decide +kernel, rfl, by decide +kernel, by decide +kernel⟩
theorem ok_waitIn {f f1 : Addr} {fd fd1 : FuncData} (F : Fun K "wait_in" "wait_in" sWaitIn f fd) (G1 : Fn K mg "rest_by" sRest ["beat", "number"] f1 fd1) : FnOk P w K mg base CX0 2 f fd ["net", "table", "span"] spWaitIn := by
  have F1 : FnOk P w K mg base CX0 1 f1 fd1 ["beat", "number"] spRest := ok_rest G1.F
  refine F.ok scWaitIn (fun vs H Q E h => by obtain ⟨v, u, b, m, sp, ts, i, x, rfl, _⟩ := h; rfl) (fun cdv A outer s H vs Q E hr h => ?_)
  obtain ⟨v, u, b, m, sp, ts, i, x, rfl, hv, hu, R, hx, k⟩ := h
  obtain ⟨t, p, ys, rfl, ht, hp, hl, hy⟩ := netP_of hv
  obtain ⟨q, hq, hq2⟩ := hy i x hx
  obtain ⟨s0, s1, g0, g1⟩ := R.ends x (List.mem_of_getElem? hx)
  refine ⟨_, PSl.h (l_cons ⟨(ps_set (i := 3) scWaitIn.nd rfl (Or.inl rfl) (pe_ix ix_tup (pe_ix ix_tup (pe_ix ix_tup (pv 0) pe_int (fun _ _ => rfl)) (pv 2) (fun _ _ => rfl)) pe_int (fun _ _ => rfl)))⟩
    (l_cons ⟨(ps_set (i := 4) scWaitIn.nd rfl (Or.inl rfl) (pe_ix ix_tup (pe_ix ix_tup (pe_ix ix_tup (pv 0) pe_int (fun _ _ => rfl)) (pv 2) (fun _ _ => rfl)) pe_int (fun _ _ => rfl)))⟩
    (l_cons ⟨(ps_set (i := 5) scWaitIn.nd rfl (Or.inl rfl) (pe_ix ix_tup (pe_ix ix_tup (pe_ix ix_tup (pv 0) pe_int (fun _ _ => rfl)) (pv 2) (fun _ _ => rfl)) pe_int (fun _ _ => rfl)))⟩
    (l_one ⟨(ps_ret (pc1 G1 F1 hr (pa_cons (pe_ix ix_tup (pv 0) pe_int (fun _ _ => rfl)) (pa_cons (pe_op op_sub (pe_op op_sub (pe_ix ix_tup (pv 1) (pv 4) (fun _ _ => rfl)) (pe_ix ix_tup (pv 1) (pv 3) (fun _ _ => rfl))) (pv 5)) pa_nil))))⟩)))), ?_⟩
  refine ⟨_, rfl, t, _, _, _, rfl, rfl, SqT.of ht, atI_nat (j := 2) rfl, _, rfl, p, _, _, _, rfl, rfl, SqT.of hp, atI_nat (j := i) hq, q, _, _, _, rfl, rfl, SqT.of hq2, atI_nat (j := 0) rfl, ?_⟩
  refine ⟨_, rfl, t, _, _, _, rfl, rfl, SqT.of ht, atI_nat (j := 2) rfl, _, rfl, p, _, _, _, rfl, rfl, SqT.of hp, atI_nat (j := i) hq, q, _, _, _, rfl, rfl, SqT.of hq2, atI_nat (j := 1) rfl, ?_⟩
  refine ⟨_, rfl, t, _, _, _, rfl, rfl, SqT.of ht, atI_nat (j := 2) rfl, _, rfl, p, _, _, _, rfl, rfl, SqT.of hp, atI_nat (j := i) hq, q, _, _, _, rfl, rfl, SqT.of hq2, atI_nat (j := 2) rfl, ?_⟩
  refine ⟨_, rfl, t, _, _, _, rfl, rfl, SqT.of ht, atI_nat (j := 0) rfl, ?_⟩
  refine ⟨_, rfl, _, rfl, u, _, _, _, rfl, rfl, SqT.of hu, tm_at g0 g1, _, rfl, _, rfl, u, _, _, _, rfl, rfl, SqT.of hu, tm_at s0 s1, _, _, rfl, rfl, _, rfl, _, _, rfl, rfl, ?_⟩
  exact ⟨b, _, rfl, R.b1, k⟩
theorem scWaits : FnScope ["net", "table"] ["net", "table"] (defScope sWaits) := ⟨rfl, rfl, rfl, by decide +kernel, rfl, by decide +kernel, by decide +kernel⟩
theorem ok_waits {f f1 f2 : Addr} {fd fd1 fd2 : FuncData} (F : Fun K "waits_of" "waits_of" sWaits f fd) (T : Nm mg) (T2 : Nt mg) (G1 : Fn K mg "rest_by" sRest ["beat", "number"] f1 fd1) (G2 : Fn K mg "wait_in" sWaitIn ["net", "table", "span"] f2 fd2) : FnOk P w K mg base CX0 3 f fd ["net", "table"] spWaits := by
  have F2 : FnOk P w K mg base CX0 2 f2 fd2 ["net", "table", "span"] spWaitIn := ok_waitIn G2.F G1
  refine F.ok scWaits (fun vs H Q E h => by obtain ⟨v, u, b, m, sp, ts, rfl, _⟩ := h; rfl) (fun cdv A outer s H vs Q E hr h => ?_)
  obtain ⟨v, u, b, m, sp, ts, rfl, hv, hu, R, k⟩ := h
  obtain ⟨t, p, ys, rfl, ht, hp, hl, hy⟩ := netP_of hv
  refine ⟨_, PSl.h (l_one ⟨(ps_ret (pe_callTy call_tupA rfl T.ttup boot_tuple (pa_cons (pe_comp (fr := ["net", "table"]) (js := [0, 1]) rfl (pi_range1 rfl T2.range (pa_cons (pe_callB call_len_seq rfl T.len PySem.boot_len (pa_cons (pe_ix ix_tup (pv 0) pe_int (fun _ _ => rfl)) pa_nil)) pa_nil)) (by decide +kernel) rfl (by decide +kernel) rfl (by show ∀ y : Str × NameKind, y ∈ _ → y.2 = NameKind.free → List.lookup y.1 (defScope sWaits).names = some NameKind.cell; decide +kernel) (by decide +kernel) rfl (by decide +kernel) (fun _ _ _ _ _ => ⟨(pc1 G2 F2 hr (pa_cons (pv 1) (pa_cons (pv 2) (pa_cons (pv 0) pa_nil)))), pts_nil⟩)) pa_nil)))⟩), ?_⟩
  have few := R.few
  refine ⟨_, rfl, t, _, _, _, rfl, rfl, SqT.of ht, atI_nat (j := 2) rfl, p, _, rfl, .inr (SqT.of hp), _, rfl, by omega, by omega, ?_⟩
  refine comp_range (n := ((ys.length : Int)).toNat) (fun i zs H2 => H2 = H ∧ zs = (waitsM b ts (sp.take i)).map V.int) ⟨rfl, rfl⟩ (fun i zs H2 hi ⟨e1, e2⟩ => ?_) (by rw [Int.toNat_natCast, hl]; exact small_le few) (fun i zs H2 hi ⟨e1, e2⟩ => ?_) (fun zs H2 ⟨e1, e2⟩ D hD => ?_)
  · rw [e2, List.length_map]; unfold waitsM; rw [List.length_map, List.length_take]; omega
  · subst e1
    rw [Int.toNat_natCast, hl] at hi
    refine tNoIf_go ?_
    refine ⟨_, rfl, _, rfl, _, rfl, .ref t, u, b, m, sp, ts, i, sp[i], ?_, hv, hu, R, List.getElem?_eq_getElem hi, rfl, ?_⟩
    · rw [Int.zero_add]; rfl
    · rw [e2]; unfold waitsM
      rw [List.take_add_one, List.getElem?_eq_getElem hi, List.map_append, List.map_append]; rfl
  · subst e1
    refine ⟨D, _, rfl, SqL.of upd_same, fun p3 H3 S3 h3 => ?_⟩
    refine k p3 H3 ((Same.put (Same.refl H2) hD).trans S3) ?_
    rw [h3, e2, Int.toNat_natCast, hl, List.take_length]
end
end HN

/-! broken spans, fitting, what a table waits. -/
namespace HN
open PySem L2 PyProof.Rows
abbrev sWidth : Stmt := top 17
abbrev sBroken : Stmt := top 24
abbrev sFits : Stmt := top 25
abbrev sWaitOf : Stmt := top 26
section
variable {P : Program} {w : World} {K : PySem.W.Frag} {mg : Str → Option Value} {base : Heap}
theorem scWidth : FnScope ["net", "span", "least", "most"] ["net", "span"] (defScope sWidth) := ⟨rfl, rfl, rfl, by decide +kernel, rfl, by decide +kernel, by decide +kernel⟩
theorem ok_width {f : Addr} {fd : FuncData} (F : Fun K "width_of" "width_of" sWidth f fd) : FnOk P w K mg base CX0 1 f fd ["net", "span"] spWidth := by
  refine F.ok scWidth (fun vs H Q E h => by obtain ⟨v, b, m, sp, i, x, rfl, _⟩ := h; rfl) (fun cdv A outer s H vs Q E hr h => ?_)
  obtain ⟨v, b, m, sp, i, x, rfl, hv, hx, k⟩ := h
  obtain ⟨t, p, ys, rfl, ht, hp, hl, hy⟩ := netP_of hv
  obtain ⟨q, hq, hq2⟩ := hy i x hx
  refine ⟨_, PSl.h (l_cons ⟨(ps_set (i := 2) scWidth.nd rfl (Or.inl rfl) (pe_ix ix_tup (pe_ix ix_tup (pe_ix ix_tup (pv 0) pe_int (fun _ _ => rfl)) (pv 1) (fun _ _ => rfl)) pe_int (fun _ _ => rfl)))⟩
    (l_cons ⟨(ps_set (i := 3) scWidth.nd rfl (Or.inl rfl) (pe_ix ix_tup (pe_ix ix_tup (pe_ix ix_tup (pv 0) pe_int (fun _ _ => rfl)) (pv 1) (fun _ _ => rfl)) pe_int (fun _ _ => rfl)))⟩
    (l_one ⟨(ps_ret (pe_op op_sub (pv 3) (pv 2)))⟩))), ?_⟩
  refine ⟨_, rfl, t, _, _, _, rfl, rfl, SqT.of ht, atI_nat (j := 2) rfl, _, rfl, p, _, _, _, rfl, rfl, SqT.of hp, atI_nat (j := i) hq, q, _, _, _, rfl, rfl, SqT.of hq2, atI_nat (j := 2) rfl, ?_⟩
  refine ⟨_, rfl, t, _, _, _, rfl, rfl, SqT.of ht, atI_nat (j := 2) rfl, _, rfl, p, _, _, _, rfl, rfl, SqT.of hp, atI_nat (j := i) hq, q, _, _, _, rfl, rfl, SqT.of hq2, atI_nat (j := 3) rfl, ?_⟩
  exact ⟨_, rfl, _, rfl, _, _, rfl, rfl, k⟩
theorem scBroken : FnScope ["net", "table", "waits"] ["net", "table"] (defScope sBroken) := ⟨rfl, rfl, rfl, by decide +kernel, rfl, by decide +kernel, by decide +kernel⟩
theorem ok_broken {f f1 f2 : Addr} {fd fd1 fd2 : FuncData} (F : Fun K "broken_in" "broken_in" sBroken f fd) (T : Nm mg) (T2 : Nt mg) (G1 : Fn K mg "waits_of" sWaits ["net", "table"] f1 fd1) (F1 : FnOk P w K mg base CX0 3 f1 fd1 ["net", "table"] spWaits) (G2 : Fn K mg "width_of" sWidth ["net", "span"] f2 fd2) : FnOk P w K mg base CX0 4 f fd ["net", "table"] spBroken := by
  have F2 : FnOk P w K mg base CX0 1 f2 fd2 ["net", "span"] spWidth := ok_width G2.F
  refine F.ok scBroken (fun vs H Q E h => by obtain ⟨v, u, b, m, sp, ts, rfl, _⟩ := h; rfl) (fun cdv A outer s H vs Q E hr h => ?_)
  obtain ⟨v, u, b, m, sp, ts, rfl, hv, hu, R, k⟩ := h
  have hr1 : Room 1 _ := hr.mono (by decide)
  refine ⟨_, PSl.h (l_cons ⟨(ps_set (i := 2) scBroken.nd rfl (Or.inl rfl) (pc1 G1 F1 hr (pa_cons (pv 0) (pa_cons (pv 1) pa_nil))))⟩
    (l_one ⟨(ps_ret (pe_callTy call_tupA rfl T.ttup boot_tuple (pa_cons (pe_compT (xs := ["span", "wait"]) (fr := ["net"]) (js := [0]) rfl (pi_enum rfl T2.enum (pa_cons (pv 2) pa_nil)) (by decide +kernel) rfl (by decide +kernel) (by show ∀ y : Str × NameKind, y ∈ _ → y.2 = NameKind.free → List.lookup y.1 (defScope sBroken).names = some NameKind.cell; decide +kernel) rfl (by decide +kernel) (fun _ _ _ _ _ => pg_two rfl (by decide +kernel) rfl rfl) (fun _ _ _ _ _ => ⟨(pv 0), (pts_one (pt_cmpR op_gt (pv 1) (pc1 G2 F2 hr1 (pa_cons (pv 2) (pa_cons (pv 0) pa_nil))) (nomark _)))⟩)) pa_nil)))⟩)), ?_⟩
  have few := R.few
  refine ⟨_, rfl, _, rfl, v, u, b, m, sp, ts, rfl, hv, hu, R, fun p1 H1 S1 h1 => ?_⟩
  have hlen : ((waitsM b ts sp).map V.int).length = sp.length := by unfold waitsM; rw [List.length_map, List.length_map]
  refine ⟨_, rfl, p1, _, rfl, h1, ?_⟩
  refine compT_enum (K := K) (a := p1) (xs := (waitsM b ts sp).map V.int) (fun i zs H2 => Same H1 H2 ∧ zs = (bkAt b ts sp i).map V.int) ⟨Same.refl _, rfl⟩ (fun i zs H2 hi ⟨e1, e2⟩ => ?_) (by rw [hlen]; exact small_le few) (fun i x zs p2 H2 hx ⟨e1, e2⟩ hp2 => ?_) (fun zs H2 ⟨e1, e2⟩ D hD => ?_)
  · refine ⟨e1 _ _ h1, ?_⟩
    rw [e2, List.length_map]; exact bkAt_len i
  · have hi : i < sp.length := by
      rw [← hlen]
      exact (List.getElem?_eq_some_iff.mp hx).1
    have hxe : x = .int (waitM b ts sp[i]) := by
      unfold waitsM at hx
      rw [List.getElem?_map, List.getElem?_map, List.getElem?_eq_getElem hi] at hx
      exact (Option.some.inj hx).symm
    subst hxe
    have S2 : Same H1 (upd H2 p2 (.tup [.int (i : Nat), .int (waitM b ts sp[i])])) := e1.put hp2
    refine ⟨_, rfl, _, rfl, _, rfl, v, b, m, sp, i, sp[i], rfl, (hv.same S1).same S2, List.getElem?_eq_getElem hi, _, _, rfl, rfl, _, rfl, ?_⟩
    have hm := bkAt_more (b := b) (ts := ts) (List.getElem?_eq_getElem hi)
    refine ite2 (fun h1 => ?_) (fun h1 => ?_)
    · have h1 : brk b ts sp[i] = true := h1
      refine ⟨_, rfl, S2, ?_⟩
      rw [hm, if_pos h1, List.map_append, e2]; rfl
    · have h1 : ¬ brk b ts sp[i] = true := h1
      refine ⟨S2, ?_⟩
      rw [hm, if_neg h1, List.append_nil, e2]
  · refine ⟨D, _, rfl, SqL.of upd_same, fun p3 H3 S3 h3 => ?_⟩
    refine k p3 H3 (S1.trans ((e1.put hD).trans S3)) ?_
    rw [h3, e2, hlen]; rfl
theorem scFits : FnScope ["net", "table"] ["net", "table"] (defScope sFits) := ⟨rfl, rfl, rfl, by decide +kernel, rfl, by decide +kernel, by decide +kernel⟩
theorem ok_fits {f f1 : Addr} {fd fd1 : FuncData} (F : Fun K "fits" "fits" sFits f fd) (T : Nm mg) (G1 : Fn K mg "broken_in" sBroken ["net", "table"] f1 fd1) (F1 : FnOk P w K mg base CX0 4 f1 fd1 ["net", "table"] spBroken) : FnOk P w K mg base CX0 5 f fd ["net", "table"] spFits := by
  refine F.ok scFits (fun vs H Q E h => by obtain ⟨v, u, b, m, sp, ts, rfl, _⟩ := h; rfl) (fun cdv A outer s H vs Q E hr h => ?_)
  obtain ⟨v, u, b, m, sp, ts, rfl, hv, hu, R, k⟩ := h
  refine ⟨_, PSl.h (l_one ⟨(ps_ret (pe_cmpR op_eq (pe_callB call_len_seq rfl T.len PySem.boot_len (pa_cons (pc1 G1 F1 hr (pa_cons (pv 0) (pa_cons (pv 1) pa_nil))) pa_nil)) pe_int (nomark _)))⟩), ?_⟩
  refine ⟨_, rfl, _, rfl, v, u, b, m, sp, ts, rfl, hv, hu, R, fun p1 H1 S1 h1 => ?_⟩
  refine ⟨p1, _, rfl, .inr (SqT.of h1), rfl, ?_⟩
  have e : decide (V.int (((brokenM b ts sp).map V.int).length : Nat) = V.int 0) = fitsM b ts sp := by
    rw [Bool.eq_iff_iff, decide_eq_true_iff, ← brokenM_nil, List.length_map]
    constructor
    · intro z; injection z with z; omega
    · intro z; rw [z]; rfl
  rw [e]; exact k H1 S1
theorem scWaitOf : FnScope ["net", "table"] ["net", "table"] (defScope sWaitOf) := ⟨rfl, rfl, rfl, by decide +kernel, rfl, by decide +kernel, by decide +kernel⟩
theorem ok_waitOf {f f1 : Addr} {fd fd1 : FuncData} (F : Fun K "wait_of" "wait_of" sWaitOf f fd) (T : Nm mg) (T2 : Nt mg) (G1 : Fn K mg "waits_of" sWaits ["net", "table"] f1 fd1) (F1 : FnOk P w K mg base CX0 3 f1 fd1 ["net", "table"] spWaits) : FnOk P w K mg base CX0 4 f fd ["net", "table"] spWaitOf := by
  refine F.ok scWaitOf (fun vs H Q E h => by obtain ⟨v, u, b, m, sp, ts, rfl, _⟩ := h; rfl) (fun cdv A outer s H vs Q E hr h => ?_)
  obtain ⟨v, u, b, m, sp, ts, rfl, hv, hu, R, hw, k⟩ := h
  obtain ⟨t, p, ys, e0, ht, hp, hl, hy⟩ := netP_of hv
  subst e0
  refine ⟨_, PSl.h (l_one ⟨(ps_ret (pe_callB (call_sum rfl) rfl T2.sum boot_sum (pa_cons (pe_compT (xs := ["span", "wait"]) (fr := []) (js := []) rfl (pi_zipT rfl T2.zip (pa_cons (pe_ix ix_tup (pv 0) pe_int (fun _ _ => rfl)) (pa_cons (pc1 G1 F1 hr (pa_cons (pv 0) (pa_cons (pv 1) pa_nil))) pa_nil))) (by decide +kernel) rfl (by decide +kernel) (by show ∀ y : Str × NameKind, y ∈ _ → y.2 = NameKind.free → List.lookup y.1 (defScope sWaitOf).names = some NameKind.cell; decide +kernel) rfl (by decide +kernel) (fun _ _ _ _ _ => pg_two rfl (by decide +kernel) rfl rfl) (fun _ _ _ _ _ => ⟨(pe_op op_mul (pe_ix (r := rIxT K) ix_tup (pv 0) pe_int (fun _ _ => rfl)) (pv 1)), pts_nil⟩)) pa_nil)))⟩), ?_⟩
  have few := R.few
  refine ⟨_, rfl, t, _, _, _, rfl, rfl, SqT.of ht, atI_nat (j := 2) rfl, _, rfl, _, rfl, _, u, b, m, sp, ts, rfl, hv, hu, R, fun p1 H1 S1 h1 => ?_⟩
  have hlen : ((waitsM b ts sp).map V.int).length = sp.length := by unfold waitsM; rw [List.length_map, List.length_map]
  refine ⟨p, p1, _, _, rfl, S1 _ _ hp, h1, ?_⟩
  refine compT_zip (K := K) (a := p) (b := p1) (xs := ys) (ys := (waitsM b ts sp).map V.int) (fun i zs H2 => Same H1 H2 ∧ zs = ((sp.take i).map fun x => x.w * waitM b ts x).map V.int) ⟨Same.refl _, rfl⟩ (fun i zs H2 hi ⟨e1, e2⟩ => ?_) (by rw [hl]; exact small_le few) (fun i x y zs p2 H2 hx hy2 ⟨e1, e2⟩ hp2 => ?_) (fun zs H2 ⟨e1, e2⟩ D hD => ?_)
  · refine ⟨e1 _ _ (S1 _ _ hp), e1 _ _ h1, ?_⟩
    rw [e2, List.length_map, List.length_map, List.length_take]; omega
  · have hi : i < sp.length := by
      rw [← hl]
      exact (List.getElem?_eq_some_iff.mp hx).1
    have hye : y = .int (waitM b ts sp[i]) := by
      unfold waitsM at hy2
      rw [List.getElem?_map, List.getElem?_map, List.getElem?_eq_getElem hi] at hy2
      exact (Option.some.inj hy2).symm
    subst hye
    obtain ⟨q, hq, hq2⟩ := hy i sp[i] (List.getElem?_eq_getElem hi)
    rw [hx] at hq
    cases hq
    have S2 := e1.put (o := .tup [.ref q, .int (waitM b ts sp[i])]) hp2
    obtain ⟨w0, w1⟩ := hw sp[i] (List.getElem_mem hi)
    refine tNoIf_go ?_
    refine ⟨_, rfl, q, _, _, _, rfl, rfl, SqT.of (S2 _ _ (S1 _ _ hq2)), atI_nat (j := 4) rfl, _, rfl, _, _, rfl, rfl, .inl ⟨by omega, by omega⟩, S2, ?_⟩
    rw [e2, List.take_add_one, List.getElem?_eq_getElem hi, List.map_append, List.map_append]; rfl
  · refine ⟨D, _, rfl, SqL.of (xs := ((sp.map fun x => x.w * waitM b ts x).map V.int)) ?_, ?_⟩
    · rw [upd_same, e2, hl, hlen, Nat.min_self, List.take_length]
    · exact k _ (S1.trans (e1.put hD))
end
end HN

/-! a table moved. -/
namespace HN
open PySem L2 PyProof.Rows
abbrev sMoved : Stmt := top 27
section
variable {P : Program} {w : World} {K : PySem.W.Frag} {mg : Str → Option Value} {base : Heap}
theorem scMoved : FnScope ["net", "table", "number"] ["net", "table", "number"] (defScope sMoved) := ⟨rfl, rfl, rfl, by decide +kernel, rfl, by decide +kernel, by decide +kernel⟩
theorem ok_moved {f f1 : Addr} {fd fd1 : FuncData} (F : Fun K "moved_by" "moved_by" sMoved f fd) (T : Nm mg) (G1 : Fn K mg "rest_by" sRest ["beat", "number"] f1 fd1) : FnOk P w K mg base CX0 2 f fd ["net", "table", "number"] spMoved := by
  have F1 : FnOk P w K mg base CX0 1 f1 fd1 ["beat", "number"] spRest := ok_rest G1.F
  refine F.ok scMoved (fun vs H Q E h => by obtain ⟨t, u, b, rest, ns, k, rfl, _⟩ := h; rfl) (fun cdv A outer s H vs Q E hr h => ?_)
  obtain ⟨t, u, b, rest, ns, j, rfl, ht, hu, hb, hn, k⟩ := h
  refine ⟨_, PSl.h (l_one ⟨(ps_ret (pe_callTy call_tupA rfl T.ttup boot_tuple (pa_cons (pe_comp (fr := ["net", "number"]) (js := [0, 2]) rfl (pi_tup (pv 1)) (by decide +kernel) rfl (by decide +kernel) rfl (by show ∀ y : Str × NameKind, y ∈ _ → y.2 = NameKind.free → List.lookup y.1 (defScope sMoved).names = some NameKind.cell; decide +kernel) (by decide +kernel) rfl (by decide +kernel) (fun _ _ _ _ _ => ⟨(pc1 G1 F1 hr (pa_cons (pe_ix (r := rIxT K) ix_tup (pv 1) pe_int (fun _ _ => rfl)) (pa_cons (pe_op op_add (pv 0) (pv 2)) pa_nil))), pts_nil⟩)) pa_nil)))⟩), ?_⟩
  have hz : (ns.map V.int).length ≤ sizeLine := by
    rw [List.length_map]
    have : (1000 : Nat) ≤ sizeLine := by decide
    omega
  refine ⟨_, rfl, u, rfl, ⟨_, SqT.of hu⟩, ?_⟩
  refine comp_tup (K := K) (a := u) (xs := ns.map V.int) (fun i zs H2 => H2 = H ∧ zs = (movedL b j (ns.take i)).map V.int) ⟨rfl, rfl⟩ (fun i zs H2 hi ⟨e1, e2⟩ => ?_) hz (fun i x zs H2 hx ⟨e1, e2⟩ => ?_) (fun zs H2 ⟨e1, e2⟩ D hD => ?_)
  · subst e1
    refine ⟨SqT.of hu, ?_⟩
    rw [e2, List.length_map]; unfold movedL; rw [List.length_map, List.length_take]; omega
  · subst e1
    rw [List.getElem?_map] at hx
    obtain ⟨n, en, rfl⟩ := Option.map_eq_some_iff.mp hx
    refine tNoIf_go ?_
    refine ⟨_, rfl, t, _, _, _, rfl, rfl, SqT.of ht, atI_nat (j := 0) rfl, _, rfl, _, rfl, _, _, rfl, rfl, b, _, rfl, hb, rfl, ?_⟩
    rw [e2]; unfold movedL
    rw [List.take_add_one, en]
    simp
  · subst e1
    refine ⟨D, _, rfl, SqL.of upd_same, fun p H3 S3 h3 => ?_⟩
    refine k p H3 ((Same.put (Same.refl H2) hD).trans S3) ?_
    rw [h3, e2, List.length_map, List.take_length]
end
end HN

/-! nets and tables mirrored. -/
namespace HN
open PySem L2 PyProof.Rows
abbrev sMirS : Stmt := top 29
abbrev sMir : Stmt := top 30
abbrev sTabMir : Stmt := top 31
section
variable {P : Program} {w : World} {K : PySem.W.Frag} {mg : Str → Option Value} {base : Heap}
theorem scMirS : FnScope ["span"] ["span"] (defScope sMirS) := ⟨rfl, rfl, rfl, by decide +kernel, rfl, by decide +kernel, by decide +kernel⟩
theorem ok_mirS {f : Addr} {fd : FuncData} (F : Fun K "mirrored_span" "mirrored_span" sMirS f fd) : FnOk P w K mg base CX0 1 f fd ["span"] spMirS := by
  refine F.ok scMirS (fun vs H Q E h => by obtain ⟨q, x, rfl, _⟩ := h; rfl) (fun cdv A outer s H vs Q E hr h => ?_)
  obtain ⟨q, x, rfl, hq, k⟩ := h
  refine ⟨_, PSl.h (l_one ⟨(ps_ret (pe_tupA (pa_cons (pe_ix ix_tup (pv 0) pe_int (fun _ _ => rfl)) (pa_cons (pe_ix ix_tup (pv 0) pe_int (fun _ _ => rfl)) (pa_cons (pe_ix ix_tup (pv 0) pe_int (fun _ _ => rfl)) (pa_cons (pe_ix ix_tup (pv 0) pe_int (fun _ _ => rfl)) (pa_cons (pe_ix ix_tup (pv 0) pe_int (fun _ _ => rfl)) pa_nil)))))))⟩), ?_⟩
  exact ⟨_, rfl, q, _, _, _, rfl, rfl, SqT.of hq, atI_nat (j := 1) rfl, _, rfl, q, _, _, _, rfl, rfl, SqT.of hq, atI_nat (j := 0) rfl, _, rfl, q, _, _, _, rfl, rfl, SqT.of hq, atI_nat (j := 2) rfl, _, rfl, q, _, _, _, rfl, rfl, SqT.of hq, atI_nat (j := 3) rfl, _, rfl, q, _, _, _, rfl, rfl, SqT.of hq, atI_nat (j := 4) rfl, (by show 5 ≤ sizeLine; decide), fun p H' S h => k p H' S h⟩
theorem scMir : FnScope ["net"] ["net"] (defScope sMir) := ⟨rfl, rfl, rfl, by decide +kernel, rfl, by decide +kernel, by decide +kernel⟩
theorem ok_mir {f f1 : Addr} {fd fd1 : FuncData} (F : Fun K "mirrored" "mirrored" sMir f fd) (T : Nm mg) (G1 : Fn K mg "mirrored_span" sMirS ["span"] f1 fd1) : FnOk P w K mg base CX0 2 f fd ["net"] spMir := by
  have F1 : FnOk P w K mg base CX0 1 f1 fd1 ["span"] spMirS := ok_mirS G1.F
  refine F.ok scMir (fun vs H Q E h => by obtain ⟨v, b, m, sp, rfl, _⟩ := h; rfl) (fun cdv A outer s H vs Q E hr h => ?_)
  obtain ⟨v, b, m, sp, rfl, hv, few, k⟩ := h
  obtain ⟨t, p, ys, rfl, ht, hp, hl, hy⟩ := netP_of hv
  refine ⟨_, PSl.h (l_one ⟨(ps_ret (pe_tupA (pa_cons (pe_ix ix_tup (pv 0) pe_int (fun _ _ => rfl)) (pa_cons (pe_ix ix_tup (pv 0) pe_int (fun _ _ => rfl)) (pa_cons (pe_callTy call_tupA rfl T.ttup boot_tuple (pa_cons (pe_comp (fr := []) (js := []) rfl (pi_tup (pe_ix ix_tup (pv 0) pe_int (fun _ _ => rfl))) (by decide +kernel) rfl (by decide +kernel) rfl (by show ∀ y : Str × NameKind, y ∈ _ → y.2 = NameKind.free → List.lookup y.1 (defScope sMir).names = some NameKind.cell; decide +kernel) (by decide +kernel) rfl (by decide +kernel) (fun _ _ _ _ _ => ⟨(pc1 G1 F1 hr (pa_cons (pv 0) pa_nil)), pts_nil⟩)) pa_nil)) pa_nil)))))⟩), ?_⟩
  refine ⟨_, rfl, t, _, _, _, rfl, rfl, SqT.of ht, atI_nat (j := 0) rfl, _, rfl, t, _, _, _, rfl, rfl, SqT.of ht, atI_nat (j := 1) rfl, _, rfl, t, _, _, _, rfl, rfl, SqT.of ht, atI_nat (j := 2) rfl, p, rfl, ⟨_, SqT.of hp⟩, ?_⟩
  refine comp_tup (K := K) (a := p) (xs := ys) (fun i zs H2 => Same H H2 ∧ IsDs H2 zs (rowsD Sn.row ((sp.take i).map mirS))) ⟨Same.refl H, .nil⟩ (fun i zs H2 hi ⟨e1, e2⟩ => ?_) (by rw [hl]; exact small_le few) (fun i x zs H2 hx ⟨e1, e2⟩ => ?_) (fun zs H2 ⟨e1, e2⟩ D hD => ?_)
  · refine ⟨SqT.of (e1 _ _ hp), ?_⟩
    rw [e2.length]; unfold rowsD; rw [List.length_map, List.length_map, List.length_take]; omega
  · have hi : i < sp.length := by rw [← hl]; exact (List.getElem?_eq_some_iff.mp hx).1
    obtain ⟨q, hq, hq2⟩ := hy i sp[i] (List.getElem?_eq_getElem hi)
    rw [hx] at hq
    cases hq
    refine tNoIf_go ?_
    refine ⟨_, rfl, q, sp[i], rfl, e1 _ _ hq2, fun q4 H4 S4 h4 => ⟨e1.trans S4, ?_⟩⟩
    unfold rowsD
    rw [List.take_add_one, List.getElem?_eq_getElem hi, List.map_append, List.map_append]
    exact (e2.same S4).append (.cons (.tup h4 (IsDs.ints (mirS sp[i]).row)) .nil)
  · refine ⟨D, _, rfl, SqL.of upd_same, fun p3 H3 S3 h3 => ⟨(by show 3 ≤ sizeLine; decide), fun t4 H4 S4 h4 => ?_⟩⟩
    have S23 := (Same.put (o := .lst zs) (Same.refl H2) hD).trans S3
    rw [hl, List.take_length] at e2
    exact k (.ref t4) H4 (e1.trans (S23.trans S4)) (.tup h4 (.cons (.int b) (.cons (.int m) (.cons (.tup (S4 _ _ h3) (e2.same (S23.trans S4))) .nil))))
theorem scTabMir : FnScope ["net", "table"] ["net", "table"] (defScope sTabMir) := ⟨rfl, rfl, rfl, by decide +kernel, rfl, by decide +kernel, by decide +kernel⟩
theorem ok_tabMir {f f1 : Addr} {fd fd1 : FuncData} (F : Fun K "table_mirrored" "table_mirrored" sTabMir f fd) (T : Nm mg) (G1 : Fn K mg "rest_by" sRest ["beat", "number"] f1 fd1) : FnOk P w K mg base CX0 2 f fd ["net", "table"] spTabMir := by
  have F1 : FnOk P w K mg base CX0 1 f1 fd1 ["beat", "number"] spRest := ok_rest G1.F
  refine F.ok scTabMir (fun vs H Q E h => by obtain ⟨t, u, b, rest, ns, rfl, _⟩ := h; rfl) (fun cdv A outer s H vs Q E hr h => ?_)
  obtain ⟨t, u, b, rest, ns, rfl, ht, hu, hb, hn, k⟩ := h
  refine ⟨_, PSl.h (l_one ⟨(ps_ret (pe_callTy call_tupA rfl T.ttup boot_tuple (pa_cons (pe_comp (fr := ["net"]) (js := [0]) rfl (pi_tup (pv 1)) (by decide +kernel) rfl (by decide +kernel) rfl (by show ∀ y : Str × NameKind, y ∈ _ → y.2 = NameKind.free → List.lookup y.1 (defScope sTabMir).names = some NameKind.cell; decide +kernel) (by decide +kernel) rfl (by decide +kernel) (fun _ _ _ _ _ => ⟨(pc1 G1 F1 hr (pa_cons (pe_ix (r := rIxT K) ix_tup (pv 1) pe_int (fun _ _ => rfl)) (pa_cons (pe_un un_neg (pv 0)) pa_nil))), pts_nil⟩)) pa_nil)))⟩), ?_⟩
  refine ⟨_, rfl, u, rfl, ⟨_, SqT.of hu⟩, ?_⟩
  refine comp_tup (K := K) (a := u) (xs := ns.map V.int) (fun i zs H2 => H2 = H ∧ zs = (mirT b (ns.take i)).map V.int) ⟨rfl, rfl⟩ (fun i zs H2 hi ⟨e1, e2⟩ => ?_) (by rw [List.length_map]; exact small_le hn) (fun i x zs H2 hx ⟨e1, e2⟩ => ?_) (fun zs H2 ⟨e1, e2⟩ D hD => ?_)
  · subst e1
    refine ⟨SqT.of hu, ?_⟩
    rw [e2, List.length_map, mirT_len, List.length_take]; omega
  · subst e1
    rw [List.getElem?_map] at hx
    obtain ⟨n, en, rfl⟩ := Option.map_eq_some_iff.mp hx
    refine tNoIf_go ?_
    refine ⟨_, rfl, t, _, _, _, rfl, rfl, SqT.of ht, atI_nat (j := 0) rfl, _, rfl, _, rfl, b, _, rfl, hb, rfl, ?_⟩
    rw [e2]; unfold mirT
    rw [List.take_add_one, en]
    simp
  · subst e1
    refine ⟨D, _, rfl, SqL.of upd_same, fun p H3 S3 h3 => ?_⟩
    refine k p H3 ((Same.put (Same.refl H2) hD).trans S3) ?_
    rw [h3, e2, List.length_map, List.take_length]
end
end HN

/-! nets and tables stretched. -/
namespace HN
open PySem L2 PyProof.Rows
abbrev sStrS : Stmt := top 32
abbrev sStr : Stmt := top 33
abbrev sTabStr : Stmt := top 34
section
variable {P : Program} {w : World} {K : PySem.W.Frag} {mg : Str → Option Value} {base : Heap}
theorem scStrS : FnScope ["span", "number"] ["span", "number"] (defScope sStrS) := ⟨rfl, rfl, rfl, by decide +kernel, rfl, by decide +kernel, by decide +kernel⟩
theorem ok_strS {f : Addr} {fd : FuncData} (F : Fun K "stretched_span" "stretched_span" sStrS f fd) : FnOk P w K mg base CX0 1 f fd ["span", "number"] spStrS := by
  refine F.ok scStrS (fun vs H Q E h => by obtain ⟨q, x, n, rfl, _⟩ := h; rfl) (fun cdv A outer s H vs Q E hr h => ?_)
  obtain ⟨q, x, n, rfl, hq, n0, n1, k⟩ := h
  refine ⟨_, PSl.h (l_one ⟨(ps_ret (pe_tupA (pa_cons (pe_ix ix_tup (pv 0) pe_int (fun _ _ => rfl)) (pa_cons (pe_ix ix_tup (pv 0) pe_int (fun _ _ => rfl)) (pa_cons (pe_op op_mul (pe_ix ix_tup (pv 0) pe_int (fun _ _ => rfl)) (pv 1)) (pa_cons (pe_op op_mul (pe_ix ix_tup (pv 0) pe_int (fun _ _ => rfl)) (pv 1)) (pa_cons (pe_ix ix_tup (pv 0) pe_int (fun _ _ => rfl)) pa_nil)))))))⟩), ?_⟩
  exact ⟨_, rfl, q, _, _, _, rfl, rfl, SqT.of hq, atI_nat (j := 0) rfl, _, rfl, q, _, _, _, rfl, rfl, SqT.of hq, atI_nat (j := 1) rfl, _, rfl, q, _, _, _, rfl, rfl, SqT.of hq, atI_nat (j := 2) rfl, _, rfl, _, _, rfl, rfl, .inr ⟨by omega, by omega⟩, _, rfl, q, _, _, _, rfl, rfl, SqT.of hq, atI_nat (j := 3) rfl, _, rfl, _, _, rfl, rfl, .inr ⟨by omega, by omega⟩, _, rfl, q, _, _, _, rfl, rfl, SqT.of hq, atI_nat (j := 4) rfl, (by show 5 ≤ sizeLine; decide), fun p H' S h => k p H' S h⟩
theorem scStr : FnScope ["net", "number"] ["net", "number"] (defScope sStr) := ⟨rfl, rfl, rfl, by decide +kernel, rfl, by decide +kernel, by decide +kernel⟩
theorem ok_str {f f1 : Addr} {fd fd1 : FuncData} (F : Fun K "stretched" "stretched" sStr f fd) (T : Nm mg) (G1 : Fn K mg "stretched_span" sStrS ["span", "number"] f1 fd1) : FnOk P w K mg base CX0 2 f fd ["net", "number"] spStr := by
  have F1 : FnOk P w K mg base CX0 1 f1 fd1 ["span", "number"] spStrS := ok_strS G1.F
  refine F.ok scStr (fun vs H Q E h => by obtain ⟨v, b, m, sp, n, rfl, _⟩ := h; rfl) (fun cdv A outer s H vs Q E hr h => ?_)
  obtain ⟨v, b, m, sp, n, rfl, hv, few, n0, n1, k⟩ := h
  obtain ⟨t, p, ys, rfl, ht, hp, hl, hy⟩ := netP_of hv
  refine ⟨_, PSl.h (l_one ⟨(ps_ret (pe_tupA (pa_cons (pe_op op_mul (pe_ix ix_tup (pv 0) pe_int (fun _ _ => rfl)) (pv 1)) (pa_cons (pe_ix ix_tup (pv 0) pe_int (fun _ _ => rfl)) (pa_cons (pe_callTy call_tupA rfl T.ttup boot_tuple (pa_cons (pe_comp (fr := ["number"]) (js := [1]) rfl (pi_tup (pe_ix ix_tup (pv 0) pe_int (fun _ _ => rfl))) (by decide +kernel) rfl (by decide +kernel) rfl (by show ∀ y : Str × NameKind, y ∈ _ → y.2 = NameKind.free → List.lookup y.1 (defScope sStr).names = some NameKind.cell; decide +kernel) (by decide +kernel) rfl (by decide +kernel) (fun _ _ _ _ _ => ⟨(pc1 G1 F1 hr (pa_cons (pv 0) (pa_cons (pv 1) pa_nil))), pts_nil⟩)) pa_nil)) pa_nil)))))⟩), ?_⟩
  refine ⟨_, rfl, t, _, _, _, rfl, rfl, SqT.of ht, atI_nat (j := 0) rfl, _, rfl, _, _, rfl, rfl, .inr ⟨by omega, by omega⟩, _, rfl, t, _, _, _, rfl, rfl, SqT.of ht, atI_nat (j := 1) rfl, _, rfl, t, _, _, _, rfl, rfl, SqT.of ht, atI_nat (j := 2) rfl, p, rfl, ⟨_, SqT.of hp⟩, ?_⟩
  refine comp_tup (K := K) (a := p) (xs := ys) (fun i zs H2 => Same H H2 ∧ IsDs H2 zs (rowsD Sn.row ((sp.take i).map (strS n)))) ⟨Same.refl H, .nil⟩ (fun i zs H2 hi ⟨e1, e2⟩ => ?_) (by rw [hl]; exact small_le few) (fun i x zs H2 hx ⟨e1, e2⟩ => ?_) (fun zs H2 ⟨e1, e2⟩ D hD => ?_)
  · refine ⟨SqT.of (e1 _ _ hp), ?_⟩
    rw [e2.length]; unfold rowsD; rw [List.length_map, List.length_map, List.length_take]; omega
  · have hi : i < sp.length := by rw [← hl]; exact (List.getElem?_eq_some_iff.mp hx).1
    obtain ⟨q, hq, hq2⟩ := hy i sp[i] (List.getElem?_eq_getElem hi)
    rw [hx] at hq
    cases hq
    refine tNoIf_go ?_
    refine ⟨_, rfl, _, rfl, q, sp[i], n, rfl, e1 _ _ hq2, n0, n1, fun q4 H4 S4 h4 => ⟨e1.trans S4, ?_⟩⟩
    unfold rowsD
    rw [List.take_add_one, List.getElem?_eq_getElem hi, List.map_append, List.map_append]
    exact (e2.same S4).append (.cons (.tup h4 (IsDs.ints (strS n sp[i]).row)) .nil)
  · refine ⟨D, _, rfl, SqL.of upd_same, fun p3 H3 S3 h3 => ⟨(by show 3 ≤ sizeLine; decide), fun t4 H4 S4 h4 => ?_⟩⟩
    have S23 := (Same.put (o := .lst zs) (Same.refl H2) hD).trans S3
    rw [hl, List.take_length] at e2
    exact k (.ref t4) H4 (e1.trans (S23.trans S4)) (.tup h4 (.cons (.int (b * n)) (.cons (.int m) (.cons (.tup (S4 _ _ h3) (e2.same (S23.trans S4))) .nil))))
theorem scTabStr : FnScope ["table", "number"] ["table", "number"] (defScope sTabStr) := ⟨rfl, rfl, rfl, by decide +kernel, rfl, by decide +kernel, by decide +kernel⟩
theorem ok_tabStr {f : Addr} {fd : FuncData} (F : Fun K "table_stretched" "table_stretched" sTabStr f fd) (T : Nm mg) : FnOk P w K mg base CX0 1 f fd ["table", "number"] spTabStr := by
  refine F.ok scTabStr (fun vs H Q E h => by obtain ⟨u, ns, n, rfl, _⟩ := h; rfl) (fun cdv A outer s H vs Q E hr h => ?_)
  obtain ⟨u, ns, j, rfl, hu, j0, j1, hn, k⟩ := h
  refine ⟨_, PSl.h (l_one ⟨(ps_ret (pe_callTy call_tupA rfl T.ttup boot_tuple (pa_cons (pe_comp (fr := ["number"]) (js := [1]) rfl (pi_tup (pv 0)) (by decide +kernel) rfl (by decide +kernel) rfl (by show ∀ y : Str × NameKind, y ∈ _ → y.2 = NameKind.free → List.lookup y.1 (defScope sTabStr).names = some NameKind.cell; decide +kernel) (by decide +kernel) rfl (by decide +kernel) (fun _ _ _ _ _ => ⟨(pe_op op_mul (pv 0) (pv 1)), pts_nil⟩)) pa_nil)))⟩), ?_⟩
  refine ⟨_, rfl, u, rfl, ⟨_, SqT.of hu⟩, ?_⟩
  refine comp_tup (K := K) (a := u) (xs := ns.map V.int) (fun i zs H2 => H2 = H ∧ zs = (strT j (ns.take i)).map V.int) ⟨rfl, rfl⟩ (fun i zs H2 hi ⟨e1, e2⟩ => ?_) (by rw [List.length_map]; exact small_le hn) (fun i x zs H2 hx ⟨e1, e2⟩ => ?_) (fun zs H2 ⟨e1, e2⟩ D hD => ?_)
  · subst e1
    refine ⟨SqT.of hu, ?_⟩
    rw [e2, List.length_map, strT_len, List.length_take]; omega
  · subst e1
    rw [List.getElem?_map] at hx
    obtain ⟨n, en, rfl⟩ := Option.map_eq_some_iff.mp hx
    refine tNoIf_go ?_
    refine ⟨_, rfl, _, rfl, _, _, rfl, rfl, .inr ⟨by omega, by omega⟩, rfl, ?_⟩
    rw [e2]; unfold strT
    rw [List.take_add_one, en]
    simp
  · subst e1
    refine ⟨D, _, rfl, SqL.of upd_same, fun p H3 S3 h3 => ?_⟩
    refine k p H3 ((Same.put (Same.refl H2) hD).trans S3) ?_
    rw [h3, e2, List.length_map, List.take_length]
end
end HN

/-! spans put behind a net's own. -/
namespace HN
open PySem L2 PyProof.Rows
abbrev sWithSp : Stmt := top 18
theorem ps_notHere {X : Cx} {st : Stmt} : PS X st (fun _ _ _ => False) := fun _ _ _ _ _ _ h => h.elim
section
variable {P : Program} {w : World} {K : PySem.W.Frag} {mg : Str → Option Value} {base : Heap}
theorem scWithSp : FnScope ["net", "more", "spans"] ["net", "more"] (defScope sWithSp) := ⟨rfl, rfl, rfl, by decide +kernel, rfl, by decide +kernel, by decide +kernel⟩
theorem ok_withSp {f : Addr} {fd : FuncData} (F : Fun K "with_spans" "with_spans" sWithSp f fd) (T : Nm mg) (CM : ∃ t, mg "MOST_SPANS" = some (.int 40 t)) : FnOk P w K mg base CX0 1 f fd ["net", "more"] spWithSp := by
  refine F.ok scWithSp (fun vs H Q E h => by obtain ⟨v, L, b, m, sp, more, zs, rfl, _⟩ := h; rfl) (fun cdv A outer s H vs Q E hr h => ?_)
  obtain ⟨v, L, b, m, sp, more, zs, rfl, hv, hL, dz, few, k⟩ := h
  obtain ⟨t, p, ys, rfl, ht, hp, dy⟩ := netP_rows hv
  have ly : ys.length = sp.length := by rw [dy.length]; unfold rowsD; rw [List.length_map]
  have lz : zs.length = more.length := by rw [dz.length]; unfold rowsD; rw [List.length_map]
  refine ⟨_, PSl.h (l_cons ⟨(ps_set (i := 2) scWithSp.nd rfl (Or.inl rfl) (pe_op op_catA (pe_ix ix_tup (pv 0) pe_int (fun _ _ => rfl)) (pe_callTy call_tupA rfl T.ttup boot_tuple (pa_cons (pv 1) pa_nil))))⟩
    (l_cons ⟨(ps_if (pt_cmpR op_gt (pe_callB call_len_seq rfl T.len PySem.boot_len (pa_cons (pv 2) pa_nil)) (pe_gint CM) (nomark _)) (pss_one ps_notHere) pss_nil)⟩
    (l_one ⟨(ps_ret (pe_tupA (pa_cons (pe_ix ix_tup (pv 0) pe_int (fun _ _ => rfl)) (pa_cons (pe_ix ix_tup (pv 0) pe_int (fun _ _ => rfl)) (pa_cons (pv 2) pa_nil)))))⟩))), ?_⟩
  refine ⟨_, rfl, t, _, _, _, rfl, rfl, SqT.of ht, atI_nat (j := 2) rfl, _, rfl, L, _, rfl, SqL.of hL, fun q1 H1 S1 h1 => ?_⟩
  refine ⟨p, q1, _, _, rfl, rfl, S1 _ _ hp, h1, Nat.le_trans (by omega : ys.length + zs.length ≤ 1000) (by decide), fun q2 H2 S2 h2 => ?_⟩
  have S12 := S1.trans S2
  have ht2 := S12 _ _ ht
  refine ⟨_, rfl, q2, _, rfl, .inr (SqT.of h2), _, _, rfl, rfl, _, rfl, iteC (by refine decide_eq_false ?_; rw [List.length_append]; omega) ?_⟩
  refine ⟨_, rfl, t, _, _, _, rfl, rfl, SqT.of ht2, atI_nat (j := 0) rfl, _, rfl, t, _, _, _, rfl, rfl, SqT.of ht2, atI_nat (j := 1) rfl, _, rfl, (by show 3 ≤ sizeLine; decide), fun q3 H3 S3 h3 => ?_⟩
  have S13 := S12.trans S3
  refine k (.ref q3) H3 S13 (.tup h3 (.cons (.int b) (.cons (.int m) (.cons (.tup (S3 _ _ h2) ?_) .nil))))
  rw [List.map_append]
  exact (dy.same S13).append (dz.same S13)
end
end HN

/-! nets side by side. -/
namespace HN
open PySem L2 PyProof.Rows
abbrev sNamed : Stmt := top 35
abbrev sSide : Stmt := top 40
section
variable {P : Program} {w : World} {K : PySem.W.Frag} {mg : Str → Option Value} {base : Heap}
theorem scNamed : FnScope ["span", "names"] ["span", "names"] (defScope sNamed) := ⟨rfl, rfl, rfl, by decide +kernel, rfl, by decide +kernel, by decide +kernel⟩
theorem ok_named {f : Addr} {fd : FuncData} (F : Fun K "span_named" "span_named" sNamed f fd) : FnOk P w K mg base CX0 1 f fd ["span", "names"] spNamed := by
  refine F.ok scNamed (fun vs H Q E h => by obtain ⟨q, L, x, js, rfl, _⟩ := h; rfl) (fun cdv A outer s H vs Q E hr h => ?_)
  obtain ⟨q, L, x, js, rfl, hq, hL, s0, s1, g0, g1, k⟩ := h
  refine ⟨_, PSl.h (l_one ⟨(ps_ret (pe_tupA (pa_cons (pe_ix ix_list (pv 1) (pe_ix ix_tup (pv 0) pe_int (fun _ _ => rfl)) (fun _ _ => rfl)) (pa_cons (pe_ix ix_list (pv 1) (pe_ix ix_tup (pv 0) pe_int (fun _ _ => rfl)) (fun _ _ => rfl)) (pa_cons (pe_ix ix_tup (pv 0) pe_int (fun _ _ => rfl)) (pa_cons (pe_ix ix_tup (pv 0) pe_int (fun _ _ => rfl)) (pa_cons (pe_ix ix_tup (pv 0) pe_int (fun _ _ => rfl)) pa_nil)))))))⟩), ?_⟩
  exact ⟨_, rfl, _, rfl, q, _, _, _, rfl, rfl, SqT.of hq, atI_nat (j := 0) rfl, L, _, _, _, rfl, rfl, SqL.of hL, tm_at s0 s1, _, rfl, _, rfl, q, _, _, _, rfl, rfl, SqT.of hq, atI_nat (j := 1) rfl, L, _, _, _, rfl, rfl, SqL.of hL, tm_at g0 g1, _, rfl, q, _, _, _, rfl, rfl, SqT.of hq, atI_nat (j := 2) rfl, _, rfl, q, _, _, _, rfl, rfl, SqT.of hq, atI_nat (j := 3) rfl, _, rfl, q, _, _, _, rfl, rfl, SqT.of hq, atI_nat (j := 4) rfl, (by show 5 ≤ sizeLine; decide), fun p H' S h => k p H' S h⟩
theorem scSide : FnScope ["one", "other", "many", "names"] ["one", "other"] (defScope sSide) := ⟨rfl, rfl, rfl, by decide +kernel, rfl, by decide +kernel, by decide +kernel⟩
theorem ok_side {f f1 f2 : Addr} {fd fd1 fd2 : FuncData} (F : Fun K "side_by_side" "side_by_side" sSide f fd) (T : Nm mg) (T2 : Nt mg) (CM : ∃ t, mg "MOST_SPANS" = some (.int 40 t)) (CH : ∃ t, mg "MOST_HAPPENINGS" = some (.int 16 t)) (G1 : Fn K mg "span_named" sNamed ["span", "names"] f1 fd1) (G2 : Fn K mg "with_spans" sWithSp ["net", "more"] f2 fd2) : FnOk P w K mg base CX0 2 f fd ["one", "other"] spSide := by
  have F1 : FnOk P w K mg base CX0 1 f1 fd1 ["span", "names"] spNamed := ok_named G1.F
  have F2 : FnOk P w K mg base CX0 1 f2 fd2 ["net", "more"] spWithSp := ok_withSp G2.F T CM
  refine F.ok scSide (fun vs H Q E h => by obtain ⟨v1, v2, b, m1, m2, sp1, sp2, rfl, _⟩ := h; rfl) (fun cdv A outer s H vs Q E hr h => ?_)
  obtain ⟨v1, v2, b, m1, m2, sp1, sp2, rfl, hv1, hv2, B, k⟩ := h
  obtain ⟨t1, p1, ys1, rfl, ht1, hp1, dy1⟩ := netP_rows hv1
  obtain ⟨t2, p2, ys2, rfl, ht2, hp2, hl, hy⟩ := netP_of hv2
  have ly1 : ys1.length = sp1.length := by rw [dy1.length]; unfold rowsD; rw [List.length_map]
  have few := B.few
  have hm := B.m
  have m11 := B.N1.m1
  have m21 := B.N2.m1
  refine ⟨_, PSl.h (l_cons ⟨(ps_if (pt_cmpR op_ne (pe_ix ix_tup (pv 0) pe_int (fun _ _ => rfl)) (pe_ix ix_tup (pv 1) pe_int (fun _ _ => rfl)) (nomark _)) (pss_one ps_notHere) pss_nil)⟩
    (l_cons ⟨(ps_set (i := 2) scSide.nd rfl (Or.inl rfl) (pe_op op_add (pe_ix ix_tup (pv 0) pe_int (fun _ _ => rfl)) (pe_ix ix_tup (pv 1) pe_int (fun _ _ => rfl))))⟩
    (l_cons ⟨(ps_if (pt_cmpR op_gt (pv 2) (pe_gint CH) (nomark _)) (pss_one ps_notHere) pss_nil)⟩
    (l_cons ⟨(ps_set (i := 3) scSide.nd rfl (Or.inr rfl) (pe_callTy (call_listR2 rfl) rfl T2.tlist boot_list (pa_cons (pe_callTy call_rng2 rfl T2.range boot_range (pa_cons (pe_ix ix_tup (pv 0) pe_int (fun _ _ => rfl)) (pa_cons (pv 2) pa_nil))) pa_nil)))⟩
    (l_one ⟨(ps_ret (pc1 G2 F2 hr (pa_cons (pe_tupA (pa_cons (pe_ix ix_tup (pv 0) pe_int (fun _ _ => rfl)) (pa_cons (pv 2) (pa_cons (pe_ix ix_tup (pv 0) pe_int (fun _ _ => rfl)) pa_nil)))) (pa_cons (pe_comp (fr := ["names"]) (js := [3]) rfl (pi_tup (pe_ix ix_tup (pv 1) pe_int (fun _ _ => rfl))) (by decide +kernel) rfl (by decide +kernel) rfl (by show ∀ y : Str × NameKind, y ∈ _ → y.2 = NameKind.free → List.lookup y.1 (defScope sSide).names = some NameKind.cell; decide +kernel) (by decide +kernel) rfl (by decide +kernel) (fun _ _ _ _ _ => ⟨(pc1 G1 F1 hr (pa_cons (pv 0) (pa_cons (pv 1) pa_nil))), pts_nil⟩)) pa_nil))))⟩))))), ?_⟩
  refine ⟨_, rfl, t1, _, _, _, rfl, rfl, SqT.of ht1, atI_nat (j := 0) rfl, _, rfl, t2, _, _, _, rfl, rfl, SqT.of ht2, atI_nat (j := 0) rfl, rfl, _, rfl, iteC (by rw [decide_eq_true rfl]; rfl) ?_⟩
  refine ⟨_, rfl, t1, _, _, _, rfl, rfl, SqT.of ht1, atI_nat (j := 1) rfl, _, rfl, t2, _, _, _, rfl, rfl, SqT.of ht2, atI_nat (j := 1) rfl, _, _, rfl, rfl, ?_⟩
  refine ⟨_, rfl, _, _, rfl, rfl, _, rfl, iteC (by refine decide_eq_false ?_; omega) ?_⟩
  refine ⟨_, rfl, t1, _, _, _, rfl, rfl, SqT.of ht1, atI_nat (j := 1) rfl, _, rfl, m1, m1 + m2, rfl, fun q3 H3 S3 h3 => ?_⟩
  refine ⟨q3, m1, m1 + m2, m2.toNat, rfl, h3, by omega, by omega, by omega, by omega, fun L hL => ?_⟩
  have S4 : Same H (upd H3 L (.lst ((List.range m2.toNat).map fun k => V.int (m1 + (k : Nat))))) := S3.trans (Same.put (Same.refl H3) hL)
  have h4 : (upd H3 L (.lst ((List.range m2.toNat).map fun k => V.int (m1 + (k : Nat))))) L = some (.lst ((runL m1 m2.toNat).map V.int)) := by
    rw [upd_same]; unfold runL; rw [List.map_map]; rfl
  generalize upd H3 L (.lst ((List.range m2.toNat).map fun k => V.int (m1 + (k : Nat)))) = H4 at S4 h4 ⊢
  refine ⟨_, rfl, t1, _, _, _, rfl, rfl, SqT.of (S4 _ _ ht1), atI_nat (j := 0) rfl, _, rfl, _, rfl, t1, _, _, _, rfl, rfl, SqT.of (S4 _ _ ht1), atI_nat (j := 2) rfl, (by show 3 ≤ sizeLine; decide), fun q5 H5 S5 h5 => ?_⟩
  have S45 := S4.trans S5
  refine ⟨_, rfl, t2, _, _, _, rfl, rfl, SqT.of (S45 _ _ ht2), atI_nat (j := 2) rfl, p2, rfl, ⟨_, SqT.of (S45 _ _ hp2)⟩, ?_⟩
  refine comp_tup (K := K) (a := p2) (xs := ys2) (fun i zs H6 => Same H5 H6 ∧ IsDs H6 zs (rowsD Sn.row ((sp2.take i).map (sideS m1)))) ⟨Same.refl H5, .nil⟩ (fun i zs H6 hi ⟨e1, e2⟩ => ?_) (by rw [hl]; exact small_le (by omega)) (fun i x zs H6 hx ⟨e1, e2⟩ => ?_) (fun zs H6 ⟨e1, e2⟩ D hD => ?_)
  · refine ⟨SqT.of (e1 _ _ (S45 _ _ hp2)), ?_⟩
    rw [e2.length]; unfold rowsD; rw [List.length_map, List.length_map, List.length_take]; omega
  · have hi : i < sp2.length := by rw [← hl]; exact (List.getElem?_eq_some_iff.mp hx).1
    obtain ⟨q, hq, hq2⟩ := hy i sp2[i] (List.getElem?_eq_getElem hi)
    rw [hx] at hq
    cases hq
    have ok := B.N2.all sp2[i] (List.getElem_mem hi)
    have c1 : sp2[i].s < ((m2.toNat : Nat) : Int) := by have := ok.s1; omega
    have c2 : sp2[i].g < ((m2.toNat : Nat) : Int) := by have := ok.g1; omega
    refine tNoIf_go ?_
    refine ⟨_, rfl, _, rfl, q, L, sp2[i], runL m1 m2.toNat, rfl, e1 _ _ (S45 _ _ hq2), e1 _ _ (S5 _ _ h4), ok.s0, by rw [runL_len]; exact c1, ok.g0, by rw [runL_len]; exact c2, fun q7 H7 S7 h7 => ⟨e1.trans S7, ?_⟩⟩
    rw [namS_run ok.s0 c1 ok.g0 c2] at h7
    unfold rowsD
    rw [List.take_add_one, List.getElem?_eq_getElem hi, List.map_append, List.map_append]
    exact (e2.same S7).append (.cons (.tup h7 (IsDs.ints (sideS m1 sp2[i]).row)) .nil)
  · rw [hl, List.take_length] at e2
    have S6 : Same H5 (upd H6 D (.lst zs)) := e1.put hD
    have S06 := S45.trans S6
    exact ⟨.ref q5, D, b, m1 + m2, sp1, sp2.map (sideS m1), zs, rfl, .tup (S6 _ _ h5) (.cons (.int b) (.cons (.int _) (.cons (.tup (S06 _ _ hp1) (dy1.same S06)) .nil))), upd_same, e2.same (Same.put (Same.refl H6) hD), by rw [List.length_map]; exact few, fun u H' S' h' => k u H' (S06.trans S') h'⟩
end
end HN

/-! orders. -/
namespace HN
open PySem L2 PyProof.Rows
abbrev sIsOrder : Stmt := top 36
abbrev sCheckO : Stmt := top 37
abbrev sNamedA : Stmt := top 38
abbrev sTabNam : Stmt := top 39
theorem allT (n : Nat) : (List.replicate n true).all id = true := List.all_eq_true.mpr fun x hx => by rw [List.eq_of_mem_replicate hx]; rfl
theorem rg_vals (n : Nat) : (List.range n).map (fun (k : Nat) => V.int (k : Int)) = (rgI n).map V.int := by unfold rgI; rw [List.map_map]; rfl
section
variable {P : Program} {w : World} {K : PySem.W.Frag} {mg : Str → Option Value} {base : Heap}
theorem scIsOrder : FnScope ["net", "thing"] ["net", "thing"] (defScope sIsOrder) := ⟨rfl, rfl, rfl, by decide +kernel, rfl, by decide +kernel, by decide +kernel⟩
theorem ok_isOrder {f f1 : Addr} {fd fd1 : FuncData} (F : Fun K "is_order" "is_order" sIsOrder f fd) (T : Nm mg) (T2 : Nt mg) (TS : mg "sorted" = none) (G1 : Fn K mg "is_whole" sWhole ["thing"] f1 fd1) : FnOk P w K mg base CX0 2 f fd ["net", "thing"] spIsOrder := by
  have F1 : FnOk P w K mg base CX0 1 f1 fd1 ["thing"] spWhole := ok_whole G1.F T
  refine F.ok scIsOrder (fun vs H Q E h => by obtain ⟨t, u, n, os, rfl, _⟩ := h; rfl) (fun cdv A outer s H vs Q E hr h => ?_)
  obtain ⟨t, u, n, os, rfl, ⟨⟨b, rest, ht⟩, hu, ho, hn⟩, k⟩ := h
  have hl := ho.len
  refine ⟨_, PSl.h (l_cons ⟨(ps_if (PW.pt (pw_or (pt_not (pt_val (pe_isTup T (pv 1)))) (pw_or1 (pt_not (pt_val (pe_callB (call_all rfl) rfl T.all boot_all (pa_cons (pe_comp (fr := []) (js := []) rfl (pi_tup (pv 1)) (by decide +kernel) rfl (by decide +kernel) rfl (by show ∀ y : Str × NameKind, y ∈ _ → y.2 = NameKind.free → List.lookup y.1 (defScope sIsOrder).names = some NameKind.cell; decide +kernel) (by decide +kernel) rfl (by decide +kernel) (fun _ _ _ _ _ => ⟨(pc1 G1 F1 hr (pa_cons (pv 0) pa_nil)), pts_nil⟩)) pa_nil))))))) (pss_one (ps_ret pe_bl)) pss_nil)⟩
    (l_one ⟨(ps_ret (pe_cmpR (op_eqI hr.units) (pe_callB call_sortedT rfl TS boot_sorted (pa_cons (pv 1) pa_nil)) (pe_callTy (call_listR rfl) rfl T2.tlist boot_list (pa_cons (pe_callTy call_rng1 rfl T2.range boot_range (pa_cons (pe_ix ix_tup (pv 0) pe_int (fun _ _ => rfl)) pa_nil)) pa_nil)) (nomark _)))⟩)), ?_⟩
  have tyu : tyn H (.ref u) = some "tuple" := by simp only [tyn]; rw [hu]
  refine ⟨_, rfl, _, "tuple", rfl, tyu, _, rfl, iteC (by decide) ?_⟩
  refine ⟨_, rfl, u, rfl, ⟨_, SqT.of hu⟩, ?_⟩
  refine comp_tup (K := K) (a := u) (xs := os.map V.int) (fun i zs H2 => H2 = H ∧ zs = (List.replicate i true).map V.bl) ⟨rfl, rfl⟩ (fun i zs H2 hi ⟨e1, e2⟩ => ?_) (by rw [List.length_map]; exact small_le (by omega)) (fun i x zs H2 hx ⟨e1, e2⟩ => ?_) (fun zs H2 ⟨e1, e2⟩ D hD => ?_)
  · subst e1
    exact ⟨SqT.of hu, by rw [e2, List.length_map, List.length_replicate]; exact Nat.le_refl _⟩
  · subst e1
    rw [List.getElem?_map] at hx
    obtain ⟨m, _, rfl⟩ := Option.map_eq_some_iff.mp hx
    refine tNoIf_go ?_
    exact ⟨_, rfl, _, rfl, ⟨"int", rfl⟩, rfl, by rw [e2, List.replicate_succ', List.map_append]; rfl⟩
  subst e1
  subst e2
  refine ⟨D, _, rfl, SqL.of upd_same, _, rfl, iteC (by rw [allT]; rfl) ?_⟩
  have S1 : Same H2 (upd H2 D (.lst ((List.replicate (os.map V.int).length true).map V.bl))) := Same.put (Same.refl H2) hD
  generalize upd H2 D (.lst ((List.replicate (os.map V.int).length true).map V.bl)) = H1 at S1 ⊢
  refine ⟨_, rfl, u, os, rfl, SqT.of (S1 _ _ hu), by omega, fun l ns' hl' hp hs => ?_⟩
  have e := sorted_ord ho hp hs
  subst e
  have S2 : Same H1 (upd H1 l (.lst ((rgI n).map V.int))) := Same.put (Same.refl H1) hl'
  have h2 : (upd H1 l (.lst ((rgI n).map V.int))) l = some (.lst ((rgI n).map V.int)) := upd_same
  generalize upd H1 l (.lst ((rgI n).map V.int)) = H3 at S2 h2 ⊢
  refine ⟨_, rfl, t, _, _, _, rfl, rfl, SqT.of (S2 _ _ (S1 _ _ ht)), atI_nat (j := 1) rfl, (n : Int), rfl, fun q4 H4 S4 h4 => ?_⟩
  refine ⟨q4, n, rfl, h4, by omega, fun l2 hl2 => ?_⟩
  have S5 := Same.put (o := .lst ((List.range n).map fun (k : Nat) => V.int (k : Int))) (Same.refl H4) hl2
  refine ⟨l, l2, rgI n, rgI n, rfl, rfl, SqL.of (S5 _ _ (S4 _ _ h2)), SqL.of (by rw [← rg_vals]; exact upd_same), ?_⟩
  rw [decide_eq_true rfl]
  exact k _ (S1.trans (S2.trans (S4.trans S5)))
theorem scCheckO : FnScope ["net", "order"] ["net", "order"] (defScope sCheckO) := ⟨rfl, rfl, rfl, by decide +kernel, rfl, by decide +kernel, by decide +kernel⟩
theorem ok_checkO {f f1 : Addr} {fd fd1 : FuncData} (F : Fun K "check_order" "check_order" sCheckO f fd) (G1 : Fn K mg "is_order" sIsOrder ["net", "thing"] f1 fd1) (F1 : FnOk P w K mg base CX0 2 f1 fd1 ["net", "thing"] spIsOrder) : FnOk P w K mg base CX0 3 f fd ["net", "order"] spCheckO := by
  refine F.ok scCheckO (fun vs H Q E h => by obtain ⟨t, u, n, os, rfl, _⟩ := h; rfl) (fun cdv A outer s H vs Q E hr h => ?_)
  obtain ⟨t, u, n, os, rfl, hO, k⟩ := h
  refine ⟨_, PSl.h (l_one ⟨(ps_if (pt_not (pt_val (pc1 G1 F1 hr (pa_cons (pv 0) (pa_cons (pv 1) pa_nil))))) (pss_one ps_notHere) pss_nil)⟩), ?_⟩
  exact ⟨_, rfl, _, rfl, t, u, n, os, rfl, hO, fun H1 S1 => ⟨_, rfl, iteC (by rfl) (k H1 S1)⟩⟩
theorem scNamedA : FnScope ["net", "order", "names"] ["net", "order"] (defScope sNamedA) := ⟨rfl, rfl, rfl, by decide +kernel, rfl, by decide +kernel, by decide +kernel⟩
theorem ok_namedA {f f1 f2 : Addr} {fd fd1 fd2 : FuncData} (F : Fun K "named_anew" "named_anew" sNamedA f fd) (T : Nm mg) (T2 : Nt mg) (G1 : Fn K mg "check_order" sCheckO ["net", "order"] f1 fd1) (F1 : FnOk P w K mg base CX0 3 f1 fd1 ["net", "order"] spCheckO) (G2 : Fn K mg "span_named" sNamed ["span", "names"] f2 fd2) : FnOk P w K mg base CX0 4 f fd ["net", "order"] spNamedA := by
  have F2 : FnOk P w K mg base CX0 1 f2 fd2 ["span", "names"] spNamed := ok_named G2.F
  refine F.ok scNamedA (fun vs H Q E h => by obtain ⟨v, u, b, n, sp, os, rfl, _⟩ := h; rfl) (fun cdv A outer s H vs Q E hr h => ?_)
  obtain ⟨v, u, b, n, sp, os, rfl, hv, hu, ho, hn, hs, few, k⟩ := h
  obtain ⟨t, p, ys, rfl, ht, hp, hl, hy⟩ := netP_of hv
  have hr1 : Room 1 _ := hr.mono (by decide)
  refine ⟨_, PSl.h (l_cons ⟨(ps_expr (pc1 G1 F1 hr (pa_cons (pv 0) (pa_cons (pv 1) pa_nil))))⟩
    (l_cons ⟨(ps_set (i := 2) scNamedA.nd rfl (Or.inr rfl) (pe_comp (fr := ["order"]) (js := [1]) rfl (pi_range1 rfl T2.range (pa_cons (pe_ix ix_tup (pv 0) pe_int (fun _ _ => rfl)) pa_nil)) (by decide +kernel) rfl (by decide +kernel) rfl (by show ∀ y : Str × NameKind, y ∈ _ → y.2 = NameKind.free → List.lookup y.1 (defScope sNamedA).names = some NameKind.cell; decide +kernel) (by decide +kernel) rfl (by decide +kernel) (fun _ _ _ _ _ => ⟨(pe_bmT (r := rIndexT K) PySem.F.slot_tuple_index PySem.F.type_tuple_index mt_indexT (pv 1) (pa_cons (pv 0) pa_nil)), pts_nil⟩)))⟩
    (l_one ⟨(ps_ret (pe_tupA (pa_cons (pe_ix ix_tup (pv 0) pe_int (fun _ _ => rfl)) (pa_cons (pe_ix ix_tup (pv 0) pe_int (fun _ _ => rfl)) (pa_cons (pe_callTy call_tupA rfl T.ttup boot_tuple (pa_cons (pe_comp (fr := ["names"]) (js := [2]) rfl (pi_tup (pe_ix ix_tup (pv 0) pe_int (fun _ _ => rfl))) (by decide +kernel) rfl (by decide +kernel) rfl (by show ∀ y : Str × NameKind, y ∈ _ → y.2 = NameKind.free → List.lookup y.1 (defScope sNamedA).names = some NameKind.cell; decide +kernel) (by decide +kernel) rfl (by decide +kernel) (fun _ _ _ _ _ => ⟨(pc1 G2 F2 hr1 (pa_cons (pv 0) (pa_cons (pv 1) pa_nil))), pts_nil⟩)) pa_nil)) pa_nil)))))⟩))), ?_⟩
  refine ⟨_, rfl, _, rfl, t, u, n, os, rfl, ⟨⟨b, _, ht⟩, hu, ho, hn⟩, fun H1 S1 => ?_⟩
  refine ⟨_, rfl, t, _, _, _, rfl, rfl, SqT.of (S1 _ _ ht), atI_nat (j := 1) rfl, (n : Int), rfl, by omega, by omega, ?_⟩
  refine comp_range (n := ((n : Int)).toNat) (fun i zs H2 => H2 = H1 ∧ zs = (((rgI n).take i).map (posI os)).map V.int) ⟨rfl, rfl⟩ (fun i zs H2 hi ⟨_, e2⟩ => by rw [e2, List.length_map, List.length_map, List.length_take]; omega) (small_le (by omega)) (fun i zs H2 hi ⟨e1, e2⟩ => ?_) (fun zs H2 ⟨e1, e2⟩ L hL => ?_)
  · subst e1
    have hi' : i < n := by omega
    have zi : (0 : Int) + (i : Nat) = (i : Nat) := Int.zero_add _
    rw [zi]
    refine tNoIf_go ?_
    refine ⟨_, rfl, ⟨u, _, rfl, (S1 _ _ hu)⟩, _, rfl, u, os, (i : Int), os.idxOf (i : Int), rfl, rfl, SqT.of (S1 _ _ hu), ho.at (by omega) (by omega), fun j hj => ho.first hj, rfl, ?_⟩
    rw [e2, List.take_add_one, rgI_at hi', List.map_append, List.map_append]; rfl
  subst e1
  have e3 : zs = (posL os n).map V.int := by rw [e2]; unfold posL; rw [List.take_of_length_le (by rw [rgI_len]; omega)]
  subst e3
  have S3 : Same H (upd H2 L (.lst ((posL os n).map V.int))) := S1.put hL
  have h3 : (upd H2 L (.lst ((posL os n).map V.int))) L = some (.lst ((posL os n).map V.int)) := upd_same
  generalize upd H2 L (.lst ((posL os n).map V.int)) = H3 at S3 h3 ⊢
  clear hL S1 e2
  refine ⟨_, rfl, t, _, _, _, rfl, rfl, SqT.of (S3 _ _ ht), atI_nat (j := 0) rfl, _, rfl, t, _, _, _, rfl, rfl, SqT.of (S3 _ _ ht), atI_nat (j := 1) rfl, _, rfl, t, _, _, _, rfl, rfl, SqT.of (S3 _ _ ht), atI_nat (j := 2) rfl, p, rfl, ⟨_, SqT.of (S3 _ _ hp)⟩, ?_⟩
  refine comp_tup (K := K) (a := p) (xs := ys) (fun i zs H4 => Same H3 H4 ∧ IsDs H4 zs (rowsD Sn.row ((sp.take i).map (namS (posL os n))))) ⟨Same.refl H3, .nil⟩ (fun i zs H4 hi ⟨e1, e2⟩ => ?_) (by rw [hl]; exact small_le few) (fun i x zs H4 hx ⟨e1, e2⟩ => ?_) (fun zs H4 ⟨e1, e2⟩ D hD => ?_)
  · refine ⟨SqT.of (e1 _ _ (S3 _ _ hp)), ?_⟩
    rw [e2.length]; unfold rowsD; rw [List.length_map, List.length_map, List.length_take]; omega
  · have hi : i < sp.length := by rw [← hl]; exact (List.getElem?_eq_some_iff.mp hx).1
    obtain ⟨q, hq, hq2⟩ := hy i sp[i] (List.getElem?_eq_getElem hi)
    rw [hx] at hq
    cases hq
    obtain ⟨s0, s1, g0, g1⟩ := hs sp[i] (List.getElem_mem hi)
    refine tNoIf_go ?_
    refine ⟨_, rfl, _, rfl, q, L, sp[i], posL os n, rfl, e1 _ _ (S3 _ _ hq2), e1 _ _ h3, s0, by rw [posL_len]; exact s1, g0, by rw [posL_len]; exact g1, fun q5 H5 S5 h5 => ⟨e1.trans S5, ?_⟩⟩
    unfold rowsD
    rw [List.take_add_one, List.getElem?_eq_getElem hi, List.map_append, List.map_append]
    exact (e2.same S5).append (.cons (.tup h5 (IsDs.ints (namS (posL os n) sp[i]).row)) .nil)
  · refine ⟨D, _, rfl, SqL.of upd_same, fun p5 H5 S5 h5 => ⟨(by show 3 ≤ sizeLine; decide), fun t6 H6 S6 h6 => ?_⟩⟩
    have S45 := (Same.put (o := .lst zs) (Same.refl H4) hD).trans S5
    rw [hl, List.take_length] at e2
    exact k (.ref t6) H6 (S3.trans (e1.trans (S45.trans S6))) (.tup h6 (.cons (.int b) (.cons (.int _) (.cons (.tup (S6 _ _ h5) (e2.same (S45.trans S6))) .nil))))
theorem scTabNam : FnScope ["net", "table", "order"] ["net", "table", "order"] (defScope sTabNam) := ⟨rfl, rfl, rfl, by decide +kernel, rfl, by decide +kernel, by decide +kernel⟩
theorem ok_tabNam {f f1 : Addr} {fd fd1 : FuncData} (F : Fun K "table_named_anew" "table_named_anew" sTabNam f fd) (T : Nm mg) (G1 : Fn K mg "check_order" sCheckO ["net", "order"] f1 fd1) (F1 : FnOk P w K mg base CX0 3 f1 fd1 ["net", "order"] spCheckO) : FnOk P w K mg base CX0 4 f fd ["net", "table", "order"] spTabNam := by
  refine F.ok scTabNam (fun vs H Q E h => by obtain ⟨t, u1, u2, n, ts, os, rfl, _⟩ := h; rfl) (fun cdv A outer s H vs Q E hr h => ?_)
  obtain ⟨t, u1, u2, n, ts, os, rfl, hO, hu1, hts, k⟩ := h
  obtain ⟨_, hu2, ho, hn⟩ := id hO
  have hlo := ho.len
  refine ⟨_, PSl.h (l_cons ⟨(ps_expr (pc1 G1 F1 hr (pa_cons (pv 0) (pa_cons (pv 2) pa_nil))))⟩
    (l_one ⟨(ps_ret (pe_callTy call_tupA rfl T.ttup boot_tuple (pa_cons (pe_comp (fr := ["table"]) (js := [1]) rfl (pi_tup (pv 2)) (by decide +kernel) rfl (by decide +kernel) rfl (by show ∀ y : Str × NameKind, y ∈ _ → y.2 = NameKind.free → List.lookup y.1 (defScope sTabNam).names = some NameKind.cell; decide +kernel) (by decide +kernel) rfl (by decide +kernel) (fun _ _ _ _ _ => ⟨(pe_ix (r := rIxT K) ix_tup (pv 1) (pv 0) (fun _ _ => rfl)), pts_nil⟩)) pa_nil)))⟩)), ?_⟩
  refine ⟨_, rfl, _, rfl, t, u2, n, os, rfl, hO, fun H1 S1 => ?_⟩
  refine ⟨_, rfl, u2, rfl, ⟨_, SqT.of (S1 _ _ hu2)⟩, ?_⟩
  refine comp_tup (K := K) (a := u2) (xs := os.map V.int) (fun i zs H2 => H2 = H1 ∧ zs = (permT ts (os.take i)).map V.int) ⟨rfl, rfl⟩ (fun i zs H2 hi ⟨e1, e2⟩ => ?_) (by rw [List.length_map]; exact small_le (by omega)) (fun i x zs H2 hx ⟨e1, e2⟩ => ?_) (fun zs H2 ⟨e1, e2⟩ D hD => ?_)
  · subst e1
    exact ⟨SqT.of (S1 _ _ hu2), by rw [e2, List.length_map, permT_len, List.length_take]; omega⟩
  · subst e1
    rw [List.getElem?_map] at hx
    obtain ⟨m, em, rfl⟩ := Option.map_eq_some_iff.mp hx
    obtain ⟨m0, m1⟩ := ho.mem.mp (List.mem_of_getElem? em)
    refine tNoIf_go ?_
    refine ⟨_, rfl, _, rfl, u1, _, _, _, rfl, rfl, SqT.of (S1 _ _ hu1), tm_at m0 (by omega), rfl, ?_⟩
    rw [e2]; unfold permT
    rw [List.take_add_one, em, List.map_append, List.map_append]; rfl
  · subst e1
    refine ⟨D, _, rfl, SqL.of upd_same, fun p H3 S3 h3 => ?_⟩
    refine k p H3 (S1.trans ((Same.put (Same.refl H2) hD).trans S3)) ?_
    rw [h3, e2, List.length_map, List.take_length]
end
end HN

/-! nets and tables, as the law holds them against its own. -/
namespace HN
open PySem L2 PyProof.Rows
abbrev sWaitsN : Stmt := top 46
abbrev sDrawnT : Stmt := top 49
section
variable {P : Program} {w : World} {K : PySem.W.Frag} {mg : Str → Option Value} {base : Heap}
theorem scWaitsN : FnScope ["_law_net_here", "_law_table", "_law_waits_here", "_law_start", "_law_goal", "_law_least", "_law_most", "_law_weight"] ["_law_net_here", "_law_table"] (defScope sWaitsN) := ⟨rfl, rfl, rfl, by decide +kernel, rfl, by decide +kernel, by decide +kernel⟩
theorem ok_waitsN {f : Addr} {fd : FuncData} (F : Fun K "_law_waits" "_law_waits" sWaitsN f fd) : FnOk P w K mg base CX0 1 f fd ["_law_net_here", "_law_table"] spWaitsN := by
  refine F.ok scWaitsN (fun vs H Q E h => by obtain ⟨v, u, b, m, sp, ts, rfl, _⟩ := h; rfl) (fun cdv A outer s H vs Q E hr h => ?_)
  obtain ⟨v, u, b, m, sp, ts, rfl, hv, hu, R, k⟩ := h
  obtain ⟨t, p, ys, rfl, ht, hp, hl, hy⟩ := netP_of hv
  have few := R.few
  refine ⟨_, PSl.h (l_cons ⟨(ps_set (i := 2) scWaitsN.nd rfl (Or.inl rfl) (pe_lst pa_nil))⟩
    (l_cons ⟨(ps_for PassesOwn.never rfl (pi_tup (pe_ix ix_tup (pv 0) pe_int (fun _ _ => rfl))) (pg_tup rfl (pgs_cons (pg_name (i := 3) scWaitsN.nd rfl (Or.inl rfl)) (pgs_cons (pg_name (i := 4) scWaitsN.nd rfl (Or.inl rfl)) (pgs_cons (pg_name (i := 5) scWaitsN.nd rfl (Or.inl rfl)) (pgs_cons (pg_name (i := 6) scWaitsN.nd rfl (Or.inl rfl)) (pgs_cons (pg_name (i := 7) scWaitsN.nd rfl (Or.inl rfl)) pgs_nil)))))) (pss_one (ps_expr (pe_bm PySem.F.plainAttrs_list PySem.F.slot_list_append PySem.F.type_list_append mt_append (pv 2) (pa_cons (pe_op op_mod (pe_op op_sub (pe_op op_sub (pe_ix ix_tup (pv 1) (pv 4) (fun _ _ => rfl)) (pe_ix ix_tup (pv 1) (pv 3) (fun _ _ => rfl))) (pv 5)) (pe_ix ix_tup (pv 0) pe_int (fun _ _ => rfl))) pa_nil)))))⟩
    (l_one ⟨(ps_ret (pv 2))⟩))), ?_⟩
  refine ⟨Nat.zero_le _, fun L hL => ?_⟩
  have S1 : Same H (upd H L (.lst [])) := Same.put (Same.refl H) hL
  have h1 : (upd H L (.lst [])) L = some (.lst []) := upd_same
  generalize upd H L (.lst []) = H1 at S1 h1 ⊢
  refine ⟨_, rfl, t, _, _, _, rfl, rfl, SqT.of (S1 _ _ ht), atI_nat (j := 2) rfl, p, rfl, ⟨_, SqT.of (S1 _ _ hp)⟩, ?_⟩
  refine for_tup (K := K) (xs := ys) (fun i σ H2 => Same H H2 ∧ H2 L = some (.lst ((waitsM b ts (sp.take i)).map V.int)) ∧ ∃ v3 v4 v5 v6 v7, σ = [some (.ref t), some (.ref u), some (.ref L), v3, v4, v5, v6, v7]) ⟨S1, h1, none, none, none, none, none, rfl⟩ (fun i σ H2 _ ⟨S2, _⟩ => SqT.of (S2 _ _ hp)) ?_ ?_
  · rintro i x σ H2 hx ⟨S2, h2, v3, v4, v5, v6, v7, rfl⟩
    have hi : i < sp.length := by rw [← hl]; exact (List.getElem?_eq_some_iff.mp hx).1
    obtain ⟨q, hq, hq2⟩ := hy i sp[i] (List.getElem?_eq_getElem hi)
    rw [hx] at hq
    cases hq
    have hq3 := S2 _ _ hq2
    have hu2 := S2 _ _ hu
    obtain ⟨s0, s1, g0, g1⟩ := R.ends sp[i] (List.getElem_mem hi)
    refine ⟨q, _, rfl, SqT.of hq3, rfl, _, _, rfl, _, _, rfl, _, _, rfl, _, _, rfl, _, _, rfl, rfl, ?_⟩
    refine ⟨_, rfl, .inl ⟨rfl, _, SqL.of h2⟩, _, rfl, _, rfl, u, _, _, _, rfl, rfl, SqT.of hu2, tm_at g0 g1, _, rfl, _, rfl, u, _, _, _, rfl, rfl, SqT.of hu2, tm_at s0 s1, _, _, rfl, rfl, _, rfl, _, _, rfl, rfl, _, rfl, t, _, _, _, rfl, rfl, SqT.of (S2 _ _ ht), atI_nat (j := 0) rfl, _, _, rfl, rfl, R.b1, ?_⟩
    refine ⟨L, _, _, rfl, rfl, h2, (Nat.lt_of_lt_of_le (by unfold waitsM; rw [List.length_map, List.length_map, List.length_take]; omega : _ < 1001) (by decide : 1001 ≤ sizeLine)), ?_⟩
    refine ⟨fun c o e => ?_, ?_, _, _, _, _, _, rfl⟩
    · rw [upd_ne (fun z => by rw [z, hL] at e; cases e)]
      exact S2 _ _ e
    · rw [upd_same, List.take_add_one, List.getElem?_eq_getElem hi]
      unfold waitsM
      rw [List.map_append, List.map_append]; rfl
  · rintro σ H2 ⟨S2, h2, v3, v4, v5, v6, v7, rfl⟩
    rw [hl, List.take_length] at h2
    exact ⟨_, rfl, k L H2 S2 h2⟩
theorem scDrawnT : FnScope ["_law_deck", "_law_net_here"] ["_law_deck", "_law_net_here"] (defScope sDrawnT) := ⟨rfl, rfl, rfl, by decide +kernel, rfl, by decide +kernel, by decide +kernel⟩
theorem ok_drawnT {f f1 : Addr} {fd fd1 : FuncData} (F : Fun K "_law_drawn_table" "_law_drawn_table" sDrawnT f fd) (T : Nm mg) (T2 : Nt mg) (G1 : Fn K mg "_law_draw" sDrawD ["_law_deck", "_law_most"] f1 fd1) : FnOk P w K mg base CX0 2 f fd ["_law_deck", "_law_net_here"] spDrawnT := by
  have F1 : FnOk P w K mg base CX0 1 f1 fd1 ["_law_deck", "_law_most"] spDrawD := ok_drawD G1.F T
  refine F.ok scDrawnT (fun vs H Q E h => by obtain ⟨p, t, b, m, rest, rfl, _⟩ := h; rfl) (fun cdv A outer s H vs Q E hr h => ?_)
  obtain ⟨p, t, b, m, rest, rfl, hp, ht, b1, b61, m0, m1, k⟩ := h
  refine ⟨_, PSl.h (l_one ⟨(ps_ret (pe_callTy call_tupA rfl T.ttup boot_tuple (pa_cons (pe_comp (fr := ["_law_deck", "_law_net_here"]) (js := [0, 1]) rfl (pi_range1 rfl T2.range (pa_cons (pe_ix ix_tup (pv 1) pe_int (fun _ _ => rfl)) pa_nil)) (by decide +kernel) rfl (by decide +kernel) rfl (by show ∀ y : Str × NameKind, y ∈ _ → y.2 = NameKind.free → List.lookup y.1 (defScope sDrawnT).names = some NameKind.cell; decide +kernel) (by decide +kernel) rfl (by decide +kernel) (fun _ _ _ _ _ => ⟨(pc1 G1 F1 hr (pa_cons (pv 1) (pa_cons (pe_ix (r := rIxT K) ix_tup (pv 2) pe_int (fun _ _ => rfl)) pa_nil))), pts_nil⟩)) pa_nil)))⟩), ?_⟩
  refine ⟨_, rfl, t, _, _, _, rfl, rfl, SqT.of ht, atI_nat (j := 1) rfl, m, rfl, by omega, by omega, ?_⟩
  refine comp_range (n := m.toNat) (fun i zs H4 => Md p H H4 ∧ ∃ hs : List Int, zs = hs.map V.int ∧ hs.length = i ∧ ∀ x ∈ hs, 0 ≤ x ∧ x < b) ⟨Md.refl hp, [], rfl, rfl, fun _ h => absurd h (by simp)⟩ (fun i zs H4 _ ⟨_, hs, e, hl, _⟩ => by rw [e, List.length_map, hl]; exact Nat.le_refl _) (small_le (by omega)) (fun i zs H4 hi ⟨M4, hs, e4, hl4, all4⟩ => ?_) (fun zs H4 ⟨M4, hs, e4, hl4, all4⟩ D hD => ?_)
  · refine tNoIf_go ?_
    refine ⟨_, rfl, _, rfl, t, _, _, _, rfl, rfl, SqT.of (Md.tupK hp M4 _ _ ht), atI_nat (j := 0) rfl, p, b, rfl, M4.2, by omega, b61, fun r5 H5 r50 r51 M5 => ⟨M4.trans M5, hs ++ [r5], by rw [e4, List.map_append]; rfl, by rw [List.length_append, hl4]; rfl, fun x hx => ?_⟩⟩
    rcases List.mem_append.mp hx with hx | hx
    · exact all4 x hx
    · rw [List.mem_singleton.mp hx]; exact ⟨r50, r51⟩
  subst e4
  exact ⟨D, _, rfl, SqL.of upd_same, fun u H6 S6 h6 => k u hs H6 (M4.then ((Same.put (Same.refl H4) hD).trans S6)) h6 (by omega) all4⟩
end
end HN

/-! whether a table fits, and what it waits, as the law has it. -/
namespace HN
open PySem L2 PyProof.Rows
abbrev sFitsN : Stmt := top 47
abbrev sWaitN : Stmt := top 48
section
variable {P : Program} {w : World} {K : PySem.W.Frag} {mg : Str → Option Value} {base : Heap}
theorem scFitsN : FnScope ["_law_net_here", "_law_table", "_law_wait_here", "_law_span_here"] ["_law_net_here", "_law_table"] (defScope sFitsN) := ⟨rfl, rfl, rfl, by decide +kernel, rfl, by decide +kernel, by decide +kernel⟩
theorem ok_fitsN {f f1 : Addr} {fd fd1 : FuncData} (F : Fun K "_law_fits" "_law_fits" sFitsN f fd) (T2 : Nt mg) (G1 : Fn K mg "_law_waits" sWaitsN ["_law_net_here", "_law_table"] f1 fd1) : FnOk P w K mg base CX0 2 f fd ["_law_net_here", "_law_table"] spFits := by
  have F1 : FnOk P w K mg base CX0 1 f1 fd1 ["_law_net_here", "_law_table"] spWaitsN := ok_waitsN G1.F
  refine F.ok scFitsN (fun vs H Q E h => by obtain ⟨v, u, b, m, sp, ts, rfl, _⟩ := h; rfl) (fun cdv A outer s H vs Q E hr h => ?_)
  obtain ⟨v, u, b, m, sp, ts, rfl, hv, hu, R, k⟩ := h
  obtain ⟨t, p, ys, rfl, ht, hp, hl, hy⟩ := netP_of hv
  refine ⟨_, PSl.h (l_cons ⟨(ps_for PassesOwn.never rfl (pi_zip2 rfl T2.zip (pa_cons (pc1 G1 F1 hr (pa_cons (pv 0) (pa_cons (pv 1) pa_nil))) (pa_cons (pe_ix ix_tup (pv 0) pe_int (fun _ _ => rfl)) pa_nil))) (pg_tup rfl (pgs_cons (pg_name (i := 2) scFitsN.nd rfl (Or.inl rfl)) (pgs_cons (pg_name (i := 3) scFitsN.nd rfl (Or.inl rfl)) pgs_nil))) (pss_one (ps_if (pt_cmpR op_gt (pv 2) (pe_op op_sub (pe_ix ix_tup (pv 3) pe_int (fun _ _ => rfl)) (pe_ix ix_tup (pv 3) pe_int (fun _ _ => rfl))) (nomark _)) (pss_one (ps_ret pe_bl)) pss_nil)))⟩
    (l_one ⟨(ps_ret pe_bl)⟩)), ?_⟩
  refine ⟨_, rfl, _, rfl, .ref t, u, b, m, sp, ts, rfl, hv, hu, R, fun L H1 S1 h1 => ?_⟩
  refine ⟨_, rfl, t, _, _, _, rfl, rfl, SqT.of (S1 _ _ ht), atI_nat (j := 2) rfl, ⟨true, L⟩, ⟨false, p⟩, _, _, rfl, h1, S1 _ _ hp, ?_⟩
  refine for_zip2 (c1 := ⟨true, L⟩) (c2 := ⟨false, p⟩) (xs := (waitsM b ts sp).map V.int) (ys := ys) (fun i σ H2 => Same H1 H2 ∧ (∀ x ∈ sp.take i, brk b ts x = false) ∧ ∃ v2 v3, σ = [some (.ref t), some (.ref u), v2, v3]) ⟨Same.refl H1, fun _ h => absurd h (by simp), none, none, rfl⟩ (fun i σ H2 _ ⟨S2, _⟩ => ⟨S2 _ _ h1, S2 _ _ (S1 _ _ hp)⟩) (by unfold waitsM; rw [List.length_map, List.length_map, hl]) ?_ ?_
  · rintro i x y pz σ H2 hx' hx ⟨S2, hno, v2, v3, rfl⟩ hpz
    have hi : i < sp.length := by rw [← hl]; exact (List.getElem?_eq_some_iff.mp hx).1
    obtain ⟨q, hq, hq2⟩ := hy i sp[i] (List.getElem?_eq_getElem hi)
    rw [hx] at hq
    cases hq
    unfold waitsM at hx'
    rw [List.getElem?_map, List.getElem?_map, List.getElem?_eq_getElem hi] at hx'
    cases hx'
    have S3 : Same H1 (upd H2 pz (.tup [.int (waitM b ts sp[i]), .ref q])) := S2.put hpz
    have h3 : (upd H2 pz (.tup [.int (waitM b ts sp[i]), .ref q])) pz = some (.tup [.int (waitM b ts sp[i]), .ref q]) := upd_same
    generalize upd H2 pz (.tup [.int (waitM b ts sp[i]), .ref q]) = H3 at S3 h3 ⊢
    have hq3 := S3 _ _ (S1 _ _ hq2)
    refine ⟨pz, _, rfl, SqT.of h3, rfl, _, _, rfl, _, _, rfl, rfl, ?_⟩
    refine ⟨_, rfl, _, rfl, q, _, _, _, rfl, rfl, SqT.of hq3, atI_nat (j := 3) rfl, _, rfl, q, _, _, _, rfl, rfl, SqT.of hq3, atI_nat (j := 2) rfl, _, _, rfl, rfl, _, _, rfl, rfl, _, rfl, ?_⟩
    refine ite2 (fun hc => ?_) (fun hc => ?_)
    · have e : fitsM b ts sp = false := by
        unfold fitsM
        rw [List.any_eq_true.mpr ⟨sp[i], List.getElem_mem hi, hc⟩]; rfl
      have kk := k H3 (S1.trans S3)
      rw [e] at kk
      exact kk
    · refine ⟨S3, fun x hx => ?_, _, _, rfl⟩
      rw [List.take_add_one, List.getElem?_eq_getElem hi] at hx
      rcases List.mem_append.mp hx with hx | hx
      · exact hno x hx
      · rw [List.mem_singleton.mp hx]
        exact Bool.eq_false_iff.mpr hc
  · rintro σ H2 ⟨S2, hno, v2, v3, rfl⟩
    have e : fitsM b ts sp = true := by
      unfold fitsM
      rw [Bool.not_eq_true', List.any_eq_false]
      intro x hx
      have := hno x (by unfold waitsM; rw [List.length_map, List.length_map, List.take_length]; exact hx)
      rw [this]; exact Bool.false_ne_true
    have kk := k H2 (S1.trans S2)
    rw [e] at kk
    exact kk
theorem scWaitN : FnScope ["_law_net_here", "_law_table"] ["_law_net_here", "_law_table"] (defScope sWaitN) := ⟨rfl, rfl, rfl, by decide +kernel, rfl, by decide +kernel, by decide +kernel⟩
theorem ok_waitN {f f1 : Addr} {fd fd1 : FuncData} (F : Fun K "_law_wait" "_law_wait" sWaitN f fd) (T2 : Nt mg) (G1 : Fn K mg "_law_waits" sWaitsN ["_law_net_here", "_law_table"] f1 fd1) : FnOk P w K mg base CX0 2 f fd ["_law_net_here", "_law_table"] spWaitOf := by
  have F1 : FnOk P w K mg base CX0 1 f1 fd1 ["_law_net_here", "_law_table"] spWaitsN := ok_waitsN G1.F
  refine F.ok scWaitN (fun vs H Q E h => by obtain ⟨v, u, b, m, sp, ts, rfl, _⟩ := h; rfl) (fun cdv A outer s H vs Q E hr h => ?_)
  obtain ⟨v, u, b, m, sp, ts, rfl, hv, hu, R, hw, k⟩ := h
  obtain ⟨t, p, ys, rfl, ht, hp, hl, hy⟩ := netP_of hv
  have few := R.few
  refine ⟨_, PSl.h (l_one ⟨(ps_ret (pe_callB (call_sum rfl) rfl T2.sum boot_sum (pa_cons (pe_compT (xs := ["_law_wait_here", "_law_span_here"]) (fr := []) (js := []) rfl (pi_zip2 rfl T2.zip (pa_cons (pc1 G1 F1 hr (pa_cons (pv 0) (pa_cons (pv 1) pa_nil))) (pa_cons (pe_ix ix_tup (pv 0) pe_int (fun _ _ => rfl)) pa_nil))) (by decide +kernel) rfl (by decide +kernel) (by show ∀ y : Str × NameKind, y ∈ _ → y.2 = NameKind.free → List.lookup y.1 (defScope sWaitN).names = some NameKind.cell; decide +kernel) rfl (by decide +kernel) (fun _ _ _ _ _ => pg_two rfl (by decide +kernel) rfl rfl) (fun _ _ _ _ _ => ⟨(pe_op op_mul (pv 0) (pe_ix (r := rIxT K) ix_tup (pv 1) pe_int (fun _ _ => rfl))), pts_nil⟩)) pa_nil)))⟩), ?_⟩
  refine ⟨_, rfl, _, rfl, .ref t, u, b, m, sp, ts, rfl, hv, hu, R, fun L H1 S1 h1 => ?_⟩
  refine ⟨_, rfl, t, _, _, _, rfl, rfl, SqT.of (S1 _ _ ht), atI_nat (j := 2) rfl, ⟨true, L⟩, ⟨false, p⟩, _, _, rfl, h1, S1 _ _ hp, ?_⟩
  refine compT_zip2 (K := K) (c1 := ⟨true, L⟩) (c2 := ⟨false, p⟩) (xs := (waitsM b ts sp).map V.int) (ys := ys) (fun i zs H2 => Same H1 H2 ∧ zs = ((sp.take i).map fun x => x.w * waitM b ts x).map V.int) ⟨Same.refl H1, rfl⟩ (fun i zs H2 hi ⟨S2, e2⟩ => ⟨S2 _ _ h1, S2 _ _ (S1 _ _ hp), ?_⟩) (by unfold waitsM; rw [List.length_map, List.length_map, hl]) (by unfold waitsM; rw [List.length_map, List.length_map]; exact small_le few) (fun i x y zs pz H2 hx' hx ⟨S2, e2⟩ hpz => ?_) (fun zs H2 ⟨S2, e2⟩ D hD => ?_)
  · rw [e2, List.length_map, List.length_map, List.length_take]; omega
  · have hi : i < sp.length := by rw [← hl]; exact (List.getElem?_eq_some_iff.mp hx).1
    obtain ⟨q, hq, hq2⟩ := hy i sp[i] (List.getElem?_eq_getElem hi)
    rw [hx] at hq
    cases hq
    unfold waitsM at hx'
    rw [List.getElem?_map, List.getElem?_map, List.getElem?_eq_getElem hi] at hx'
    cases hx'
    have S3 : Same H1 (upd H2 pz (.tup [.int (waitM b ts sp[i]), .ref q])) := S2.put hpz
    generalize upd H2 pz (.tup [.int (waitM b ts sp[i]), .ref q]) = H3 at S3 ⊢
    have hq3 := S3 _ _ (S1 _ _ hq2)
    obtain ⟨w0, w1⟩ := hw sp[i] (List.getElem_mem hi)
    refine tNoIf_go ?_
    refine ⟨_, rfl, _, rfl, q, _, _, _, rfl, rfl, SqT.of hq3, atI_nat (j := 4) rfl, _, _, rfl, rfl, .inr ⟨by omega, by omega⟩, S3, ?_⟩
    show zs ++ [V.int (waitM b ts sp[i] * sp[i].w)] = _
    rw [e2, Int.mul_comm (waitM b ts sp[i]) sp[i].w, List.take_add_one, List.getElem?_eq_getElem hi, List.map_append, List.map_append]
    rfl
  · refine ⟨D, _, rfl, SqL.of (by rw [e2]; exact upd_same), ?_⟩
    have e3 : ((sp.take ((waitsM b ts sp).map V.int).length).map fun x => x.w * waitM b ts x).sum = waitOfM b ts sp := by
      unfold waitOfM waitsM
      rw [List.length_map, List.length_map, List.take_length]
    rw [e3]
    exact k _ (S1.trans (S2.put hD))
end
end HN

/-! one move, drawn. -/
namespace HN
open PySem L2 PyProof.Rows
abbrev sMovedL : Stmt := top 51
section
variable {P : Program} {w : World} {K : PySem.W.Frag} {mg : Str → Option Value} {base : Heap}
theorem scMovedL : FnScope ["_law_deck", "_law_net_here", "_law_tables", "_law_way", "_law_order_here", "_law_number", "_law_time"] ["_law_deck", "_law_net_here", "_law_tables"] (defScope sMovedL) := ⟨rfl, rfl, rfl, by decide +kernel, rfl, by decide +kernel, by decide +kernel⟩
theorem ok_movedL {f f1 f2 f3 f4 f5 f6 f7 f8 f9 : Addr} {fd fd1 fd2 fd3 fd4 fd5 fd6 fd7 fd8 fd9 : FuncData} (F : Fun K "_law_moved" "_law_moved" sMovedL f fd) (T : Nm mg)
    (G1 : Fn K mg "_law_draw" sDrawD ["_law_deck", "_law_most"] f1 fd1)
    (G2 : Fn K mg "mirrored" sMir ["net"] f2 fd2) (F2 : FnOk P w K mg base CX0 2 f2 fd2 ["net"] spMir)
    (G3 : Fn K mg "table_mirrored" sTabMir ["net", "table"] f3 fd3) (F3 : FnOk P w K mg base CX0 2 f3 fd3 ["net", "table"] spTabMir)
    (G4 : Fn K mg "_law_order" sOrderL ["_law_deck", "_law_many"] f4 fd4) (F4 : FnOk P w K mg base CX0 2 f4 fd4 ["_law_deck", "_law_many"] spOrderL)
    (G5 : Fn K mg "named_anew" sNamedA ["net", "order"] f5 fd5) (F5 : FnOk P w K mg base CX0 4 f5 fd5 ["net", "order"] spNamedA)
    (G6 : Fn K mg "table_named_anew" sTabNam ["net", "table", "order"] f6 fd6) (F6 : FnOk P w K mg base CX0 4 f6 fd6 ["net", "table", "order"] spTabNam)
    (G7 : Fn K mg "stretched" sStr ["net", "number"] f7 fd7) (F7 : FnOk P w K mg base CX0 2 f7 fd7 ["net", "number"] spStr)
    (G8 : Fn K mg "table_stretched" sTabStr ["table", "number"] f8 fd8) (F8 : FnOk P w K mg base CX0 1 f8 fd8 ["table", "number"] spTabStr)
    (G9 : Fn K mg "side_by_side" sSide ["one", "other"] f9 fd9) (F9 : FnOk P w K mg base CX0 2 f9 fd9 ["one", "other"] spSide) : FnOk P w K mg base CX0 5 f fd ["_law_deck", "_law_net_here", "_law_tables"] spMovedL := by
  have F1 : FnOk P w K mg base CX0 1 f1 fd1 ["_law_deck", "_law_most"] spDrawD := ok_drawD G1.F T
  refine F.ok scMovedL (fun vs H Q E h => by obtain ⟨p, L, v, b, n, sp, t0, t1, i, rfl, _⟩ := h; rfl) (fun cdv A outer s H vs Q E hr h => ?_)
  obtain ⟨p, L, v, b, n, sp, t0, t1, i, rfl, hp, M, i5, k⟩ := h
  obtain ⟨tn, pn, ys, rfl, ht, hpn, hl, hy⟩ := netP_of M.d
  have N := M.W.N
  have few := N.few
  have b1 := N.b1
  have hb : 0 < b := by omega
  have hb61 : b < 10 ^ 61 := Int.lt_of_le_of_lt N.b2 (by decide)
  have n2 : n ≤ 16 := by have := N.m2; omega
  have l0 := M.T0.1
  have l1 := M.T1.1
  have hr1 : Room 1 _ := hr.mono (by decide)
  have hr2 : Room 2 _ := hr.mono (by decide)
  refine ⟨_, PSl.h (l_cons ⟨(ps_set (i := 3) scMovedL.nd rfl (Or.inl rfl) (pc1 G1 F1 hr1 (pa_cons (pv 0) (pa_cons pe_int pa_nil))))⟩
    (l_cons ⟨(ps_if (pt_cmpR op_eq (pv 3) pe_int (nomark _)) (pss_one (ps_ret (pe_tupA (pa_cons (pc1 G2 F2 hr2 (pa_cons (pv 1) pa_nil)) (pa_cons (pe_comp (fr := ["_law_net_here"]) (js := [1]) rfl (pi_list (pv 2)) (by decide +kernel) rfl (by decide +kernel) rfl (by show ∀ y : Str × NameKind, y ∈ _ → y.2 = NameKind.free → List.lookup y.1 (defScope sMovedL).names = some NameKind.cell; decide +kernel) (by decide +kernel) rfl (by decide +kernel) (fun _ _ _ _ _ => ⟨(pc1 G3 F3 hr2 (pa_cons (pv 1) (pa_cons (pv 0) pa_nil))), pts_nil⟩)) (pa_cons pe_int pa_nil)))))) pss_nil)⟩
    (l_cons ⟨(ps_if (pt_cmpR op_eq (pv 3) pe_int (nomark _)) (PSl.h (l_cons ⟨(ps_set (i := 4) scMovedL.nd rfl (Or.inr rfl) (pc1 G4 F4 hr2 (pa_cons (pv 0) (pa_cons (pe_ix ix_tup (pv 1) pe_int (fun _ _ => rfl)) pa_nil))))⟩
    (l_one ⟨(ps_ret (pe_tupA (pa_cons (pc1 G5 F5 hr (pa_cons (pv 1) (pa_cons (pv 4) pa_nil))) (pa_cons (pe_comp (fr := ["_law_net_here", "_law_order_here"]) (js := [1, 4]) rfl (pi_list (pv 2)) (by decide +kernel) rfl (by decide +kernel) rfl (by show ∀ y : Str × NameKind, y ∈ _ → y.2 = NameKind.free → List.lookup y.1 (defScope sMovedL).names = some NameKind.cell; decide +kernel) (by decide +kernel) rfl (by decide +kernel) (fun _ _ _ _ _ => ⟨(pc1 G6 F6 hr (pa_cons (pv 1) (pa_cons (pv 0) (pa_cons (pv 2) pa_nil)))), pts_nil⟩)) (pa_cons pe_int pa_nil)))))⟩))) pss_nil)⟩
    (l_cons ⟨(ps_if (pt_cmpR op_eq (pv 3) pe_int (nomark _)) (PSl.h (l_cons ⟨(ps_set (i := 5) scMovedL.nd rfl (Or.inr rfl) (pe_op op_add pe_int (pc1 G1 F1 hr1 (pa_cons (pv 0) (pa_cons pe_int pa_nil)))))⟩
    (l_one ⟨(ps_ret (pe_tupA (pa_cons (pc1 G7 F7 hr2 (pa_cons (pv 1) (pa_cons (pv 5) pa_nil))) (pa_cons (pe_comp (fr := ["_law_number"]) (js := [5]) rfl (pi_list (pv 2)) (by decide +kernel) rfl (by decide +kernel) rfl (by show ∀ y : Str × NameKind, y ∈ _ → y.2 = NameKind.free → List.lookup y.1 (defScope sMovedL).names = some NameKind.cell; decide +kernel) (by decide +kernel) rfl (by decide +kernel) (fun _ _ _ _ _ => ⟨(pc1 G8 F8 hr1 (pa_cons (pv 0) (pa_cons (pv 1) pa_nil))), pts_nil⟩)) (pa_cons (pv 5) pa_nil)))))⟩))) pss_nil)⟩
    (l_cons ⟨(ps_if (pt_cmpR op_eq (pe_ix ix_tup (pv 1) pe_int (fun _ _ => rfl)) pe_int (nomark _)) (pss_one (ps_ret (pe_tupA (pa_cons (pv 1) (pa_cons (pv 2) (pa_cons pe_int pa_nil)))))) pss_nil)⟩
    (l_cons ⟨(ps_set (i := 6) scMovedL.nd rfl (Or.inr rfl) (pc1 G1 F1 hr1 (pa_cons (pv 0) (pa_cons (pe_ix ix_tup (pv 1) pe_int (fun _ _ => rfl)) pa_nil))))⟩
    (l_one ⟨(ps_ret (pe_tupA (pa_cons (pc1 G9 F9 hr2 (pa_cons (pv 1) (pa_cons (pe_tupA (pa_cons (pe_ix ix_tup (pv 1) pe_int (fun _ _ => rfl)) (pa_cons pe_int (pa_cons (pe_tupA pa_nil) pa_nil)))) pa_nil))) (pa_cons (pe_comp (fr := ["_law_time"]) (js := [6]) rfl (pi_list (pv 2)) (by decide +kernel) rfl (by decide +kernel) rfl (by show ∀ y : Str × NameKind, y ∈ _ → y.2 = NameKind.free → List.lookup y.1 (defScope sMovedL).names = some NameKind.cell; decide +kernel) (by decide +kernel) rfl (by decide +kernel) (fun _ _ _ _ _ => ⟨(pe_op (r := rCatA K) op_catA (pv 0) (pe_tupA (pa_cons (pv 1) pa_nil))), pts_nil⟩)) (pa_cons pe_int pa_nil)))))⟩))))))), ?_⟩
  refine ⟨_, rfl, p, 4, rfl, hp, by decide, by decide, fun r H1 r0 r1 M1 => ?_⟩
  have hd1 := netP_keepM (Md.tupK hp M1) M.d
  have ht1 := Md.tupK hp M1 _ _ ht
  have two1 := M.two.md hp M1
  have S3 : 3 ≤ sizeLine := by decide
  -- mirrored
  refine ⟨_, rfl, rfl, _, rfl, ite2 (fun _ => ?_) (fun _ => ?_)⟩
  · refine ⟨_, rfl, .ref tn, b, (n : Int), sp, rfl, hd1, by omega, fun w H2 S2 hw => ?_⟩
    have two2 := two1.same S2
    obtain ⟨u0, u1, hL2, _⟩ := id two2
    refine ⟨_, rfl, L, rfl, ⟨_, SqL.of hL2⟩, ?_⟩
    refine comp_two (K := K) (mirT b) two2 (fun u t H3 R S3 h3 ht3 kR => ?_) (fun D H3 S3' two3 => ?_)
    · have lt : t.length ≤ 1000 := by rcases ht3 with rfl | rfl <;> omega
      exact ⟨_, rfl, _, rfl, tn, u, b, _, t, rfl, S3 _ _ (S2 _ _ ht1), h3, hb, lt, fun q H4 S4 h4 => kR q H4 S4 h4⟩
    · refine ⟨S3, fun q H4 S4 h4 => ?_⟩
      exact k q w D 1 b n (sp.map mirS) (mirT b t0) (mirT b t1) H4 (M1.then (S2.trans (S3'.trans S4))) h4 ⟨(hw.same S3').same S4, M.W.mir, two3.same S4, M.T0.mir hb, M.T1.mir hb⟩ (by decide) (by decide) (Kept.mir N M.T0) (Kept.mir N M.T1)
  -- named anew
  refine ⟨_, rfl, rfl, _, rfl, ite2 (fun _ => ?_) (fun _ => ?_)⟩
  · refine ⟨_, rfl, _, rfl, tn, _, _, _, rfl, rfl, SqT.of ht1, atI_nat (j := 1) rfl, p, n, rfl, M1.2, n2, fun uo os H2 M2 ho2 ho => ?_⟩
    have K2 := Md.tupK M1.2 M2
    have two2 := two1.md M1.2 M2
    have ht2 := K2 _ _ ht1
    refine ⟨_, rfl, _, rfl, .ref tn, uo, b, n, sp, os, rfl, netP_keepM K2 hd1, ho2, ho, n2, N.endsIn, by omega, fun w H3 S3' hw => ?_⟩
    have two3 := two2.same S3'
    obtain ⟨u0, u1, hL3, _⟩ := id two3
    refine ⟨_, rfl, L, rfl, ⟨_, SqL.of hL3⟩, ?_⟩
    refine comp_two (K := K) (fun t => permT t os) two3 (fun u t H4 R S4 h4 ht4 kR => ?_) (fun D H4 S4 two4 => ?_)
    · have lt : t.length = n := by rcases ht4 with rfl | rfl <;> assumption
      exact ⟨_, rfl, _, rfl, _, rfl, tn, u, uo, n, t, os, rfl, ⟨⟨b, _, S4 _ _ (S3' _ _ ht2)⟩, S4 _ _ (S3' _ _ ho2), ho, n2⟩, h4, lt, fun q H5 S5 h5 => kR q H5 S5 h5⟩
    · refine ⟨S3, fun q H5 S5 h5 => ?_⟩
      exact k q w D 1 b n (sp.map (namS (posL os n))) (permT t0 os) (permT t1 os) H5 ((M1.trans M2).then (S3'.trans (S4.trans S5))) h5 ⟨(hw.same S4).same S5, M.W.nam ho, two4.same S5, M.T0.nam ho, M.T1.nam ho⟩ (by decide) (by decide) (Kept.nam N ho) (Kept.nam N ho)
  -- stretched
  refine ⟨_, rfl, rfl, _, rfl, ite2 (fun _ => ?_) (fun _ => ?_)⟩
  · refine ⟨_, rfl, p, 9, rfl, M1.2, by decide, by decide, fun c H2 c0 c1 M2 => ⟨_, _, rfl, rfl, ?_⟩⟩
    have K2 := Md.tupK M1.2 M2
    have two2 := two1.md M1.2 M2
    have cp : 0 < 1 + c := by omega
    refine ⟨_, rfl, _, rfl, .ref tn, b, (n : Int), sp, 1 + c, rfl, netP_keepM K2 hd1, by omega, cp, by omega, fun w H3 S3' hw => ?_⟩
    have two3 := two2.same S3'
    obtain ⟨u0, u1, hL3, _⟩ := id two3
    refine ⟨_, rfl, L, rfl, ⟨_, SqL.of hL3⟩, ?_⟩
    refine comp_two (K := K) (strT (1 + c)) two3 (fun u t H4 R S4 h4 ht4 kR => ?_) (fun D H4 S4 two4 => ?_)
    · have lt : t.length ≤ 1000 := by rcases ht4 with rfl | rfl <;> omega
      exact ⟨_, rfl, _, rfl, u, t, 1 + c, rfl, h4, cp, by omega, lt, fun q H5 S5 h5 => kR q H5 S5 h5⟩
    · refine ⟨_, rfl, S3, fun q H5 S5 h5 => ?_⟩
      exact k q w D (1 + c) (b * (1 + c)) n (sp.map (strS (1 + c))) (strT (1 + c) t0) (strT (1 + c) t1) H5 ((M1.trans M2).then (S3'.trans (S4.trans S5))) h5 ⟨(hw.same S4).same S5, M.W.str i5 (by omega) (by omega), two4.same S5, M.T0.str cp, M.T1.str cp⟩ (by omega) (by omega) (Kept.str N M.T0 cp) (Kept.str N M.T1 cp)
  -- as it is
  refine ⟨_, rfl, tn, _, _, _, rfl, rfl, SqT.of ht1, atI_nat (j := 1) rfl, rfl, _, rfl, ite2 (fun _ => ?_) (fun hne => ?_)⟩
  · exact ⟨_, rfl, _, rfl, S3, fun q H2 S2 h2 => k q (.ref tn) L 1 b n sp t0 t1 H2 (M1.then S2) h2 ⟨hd1.same S2, M.W.up, two1.same S2, M.T0, M.T1⟩ (by decide) (by decide) ⟨rfl, by rw [Int.mul_one]⟩ ⟨rfl, by rw [Int.mul_one]⟩⟩
  -- one happening more
  have hn16 : n < 16 := Nat.lt_of_le_of_ne n2 fun z => hne (decide_eq_true (by rw [z]; rfl))
  refine ⟨_, rfl, _, rfl, tn, _, _, _, rfl, rfl, SqT.of ht1, atI_nat (j := 0) rfl, p, b, rfl, M1.2, hb, hb61, fun x H2 x0 x1 M2 => ?_⟩
  have K2 := Md.tupK M1.2 M2
  have two2 := two1.md M1.2 M2
  have ht2 := K2 _ _ ht1
  refine ⟨_, rfl, _, rfl, tn, _, _, _, rfl, rfl, SqT.of ht2, atI_nat (j := 0) rfl, Nat.zero_le _, fun q3 H3 S3' h3 => ⟨S3, fun q4 H4 S4 h4 => ?_⟩⟩
  have S24 := S3'.trans S4
  refine ⟨.ref tn, .ref q4, b, (n : Int), 1, sp, [], rfl, (netP_keepM K2 hd1).same S24, .tup h4 (.cons (.int b) (.cons (.int 1) (.cons (.tup (S4 _ _ h3) .nil) .nil))), ⟨N, ⟨b1, N.b2, by decide, by decide, by decide, fun _ h => absurd h (by simp)⟩, by omega, by show sp.length + 0 ≤ 40; omega⟩, fun w H5 S5 hw => ?_⟩
  have en : (n : Int) + 1 = ((n + 1 : Nat) : Int) := by omega
  rw [List.map_nil, List.append_nil, en] at hw
  have S25 := S24.trans S5
  have two5 := two2.same S25
  obtain ⟨u0, u1, hL5, _⟩ := id two5
  refine ⟨_, rfl, L, rfl, ⟨_, SqL.of hL5⟩, ?_⟩
  refine comp_two (K := K) (fun t => t ++ [x]) two5 (fun u t H6 R S6 h6 ht6 kR => ?_) (fun D H6 S6 two6 => ?_)
  · have lt : t.length ≤ 16 := by rcases ht6 with rfl | rfl <;> omega
    exact ⟨_, rfl, _, rfl, (by show 1 ≤ sizeLine; decide), fun q2 H7 S7 h7 => ⟨u, q2, _, _, rfl, rfl, S7 _ _ h6, h7, Nat.le_trans (by rw [List.length_map]; show t.length + 1 ≤ 1000; omega) (by decide), fun q H8 S8 h8 => kR q H8 (S7.trans S8) (by rw [h8, List.map_append]; rfl)⟩⟩
  · refine ⟨S3, fun q H7 S7 h7 => ?_⟩
    exact k q w D 1 b (n + 1) sp (t0 ++ [x]) (t1 ++ [x]) H7 ((M1.trans M2).then (S25.trans (S6.trans S7))) h7 ⟨(hw.same S6).same S7, M.W.one hn16, two6.same S7, M.T0.one x0 x1, M.T1.one x0 x1⟩ (by decide) (by decide) (Kept.one N M.T0) (Kept.one N M.T1)
end
end HN

/-! k75: the law. -/
namespace HN
open PySem L2 PyProof.Rows
abbrev sLaw : Stmt := top 52
def spLaw (K : PySem.W.Frag) : Sp := fun vs H Q _ => ∃ (a : Addr) (ns : List Int), vs = [.ref a] ∧ SqL K H a (ns.map V.int) ∧ ns.length ≤ 63 ∧ ∀ H', Q (.bl true) H'
/-- what is told of two tables, in a list -/
theorem comp_two2 {K : PySem.W.Frag} {L : Addr} {x0 x1 : V} {y0 y1 : V} {js : List Nat} {te : TE} {σ : L2.St} {H : Hp} {Q : VK} (hL : H L = some (.lst [x0, x1]))
    (s0 : ∀ H1 (R : VK), Same H H1 → (∀ H2, Same H1 H2 → R y0 H2) → te (some x0 :: blockSt σ js) H1 R) (s1 : ∀ H1 (R : VK), Same H H1 → (∀ H2, Same H1 H2 → R y1 H2) → te (some x1 :: blockSt σ js) H1 R)
    (k : ∀ D H', Same H H' → H' D = none → Q (.ref D) (upd H' D (.lst [y0, y1]))) : CompW js tNoIf te σ Q (Itl K L) H := by
  refine comp_list (K := K) (a := L) (xs := [x0, x1]) (fun i zs H' => Same H H' ∧ zs = [y0, y1].take i) ⟨Same.refl H, rfl⟩ (fun i zs H' hi ⟨S, e⟩ => ⟨SqL.of (S _ _ hL), by rw [e, List.length_take]; exact Nat.min_le_left _ _⟩) (by show 2 ≤ sizeLine; decide) (fun i x zs H' hx ⟨S, e⟩ => ?_) (fun zs H' ⟨S, e⟩ D hD => ?_)
  · match i, hx, e with
    | 0, hx, e => cases hx; exact tNoIf_go (s0 H' _ S fun H2 S2 => ⟨S.trans S2, by rw [e]; rfl⟩)
    | 1, hx, e => cases hx; exact tNoIf_go (s1 H' _ S fun H2 S2 => ⟨S.trans S2, by rw [e]; rfl⟩)
    | (j + 2), hx, _ => simp at hx
  · rw [e]; exact k D H' S hD
section
variable {P : Program} {w : World} {K : PySem.W.Frag} {mg : Str → Option Value} {base : Heap}
theorem scLaw : FnScope ["_law_script", "_law_deck", "_law_net_here", "_law_hidden", "_law_tables", "_law_due", "_law_waits_here", "_law_turn", "_law_times", "_law_k", "_law_there"] ["_law_script"] (defScope sLaw) := ⟨rfl, rfl, rfl, by decide +kernel, rfl, by decide +kernel, by decide +kernel⟩
theorem ok_law {f f1 f2 f3 f4 f5 f6 f7 f8 f9 f10 f11 f12 : Addr} {fd fd1 fd2 fd3 fd4 fd5 fd6 fd7 fd8 fd9 fd10 fd11 fd12 : FuncData} (F : Fun K "law" "law" sLaw f fd) (T : Nm mg) (T2 : Nt mg)
    (G1 : Fn K mg "_law_numbers" sNums ["_law_script", "_law_most"] f1 fd1)
    (G2 : Fn K mg "_law_net" sNetD ["_law_deck", "_law_most", "_law_beats", "_law_size", "_law_great"] f2 fd2) (F2 : FnOk P w K mg base CX0 3 f2 fd2 ["_law_deck", "_law_most", "_law_beats", "_law_size", "_law_great"] spNetF)
    (G3 : Fn K mg "_law_drawn_table" sDrawnT ["_law_deck", "_law_net_here"] f3 fd3) (F3 : FnOk P w K mg base CX0 2 f3 fd3 ["_law_deck", "_law_net_here"] spDrawnT)
    (G4 : Fn K mg "_law_fits" sFitsN ["_law_net_here", "_law_table"] f4 fd4) (F4 : FnOk P w K mg base CX0 2 f4 fd4 ["_law_net_here", "_law_table"] spFits)
    (G5 : Fn K mg "_law_wait" sWaitN ["_law_net_here", "_law_table"] f5 fd5) (F5 : FnOk P w K mg base CX0 2 f5 fd5 ["_law_net_here", "_law_table"] spWaitOf)
    (G6 : Fn K mg "_law_moved" sMovedL ["_law_deck", "_law_net_here", "_law_tables"] f6 fd6) (F6 : FnOk P w K mg base CX0 5 f6 fd6 ["_law_deck", "_law_net_here", "_law_tables"] spMovedL)
    (G7 : Fn K mg "is_net" sNet ["thing"] f7 fd7) (F7 : FnOk P w K mg base CX0 5 f7 fd7 ["thing"] spNet)
    (G8 : Fn K mg "is_table" sTable ["net", "thing"] f8 fd8) (F8 : FnOk P w K mg base CX0 3 f8 fd8 ["net", "thing"] spTable)
    (G9 : Fn K mg "fits" sFits ["net", "table"] f9 fd9) (F9 : FnOk P w K mg base CX0 5 f9 fd9 ["net", "table"] spFits)
    (G10 : Fn K mg "moved_by" sMoved ["net", "table", "number"] f10 fd10) (F10 : FnOk P w K mg base CX0 2 f10 fd10 ["net", "table", "number"] spMoved)
    (G11 : Fn K mg "_law_draw" sDrawD ["_law_deck", "_law_most"] f11 fd11)
    (G12 : Fn K mg "wait_of" sWaitOf ["net", "table"] f12 fd12) (F12 : FnOk P w K mg base CX0 4 f12 fd12 ["net", "table"] spWaitOf) : FnOk P w K mg base CX0 6 f fd ["_law_script"] (spLaw K) := by
  have F1 : FnOk P w K mg base CX0 1 f1 fd1 ["_law_script", "_law_most"] (spNums K) := ok_nums G1.F T T2
  have F11 : FnOk P w K mg base CX0 1 f11 fd11 ["_law_deck", "_law_most"] spDrawD := ok_drawD G11.F T
  refine F.ok scLaw (fun vs H Q E h => by obtain ⟨a, ns, rfl, _⟩ := h; rfl) (fun cdv A outer s H vs Q E hr h => ?_)
  obtain ⟨a, ns, rfl, ha, hn, k⟩ := h
  have hr1 : Room 1 _ := hr.mono (by decide)
  have hr2 : Room 2 _ := hr.mono (by decide)
  have hr3 : Room 3 _ := hr.mono (by decide)
  have hr4 : Room 4 _ := hr.mono (by decide)
  refine ⟨_, PSl.h (l_cons ⟨(ps_set (i := 1) scLaw.nd rfl (Or.inl rfl) (pc1 G1 F1 hr1 (pa_cons (pv 0) (pa_cons pe_int pa_nil))))⟩
    (l_cons ⟨(ps_asg (pc1 G2 F2 hr3 (pa_cons (pv 1) (pa_cons pe_int (pa_cons pe_int (pa_cons pe_int (pa_cons (pe_op op_pow pe_int pe_int) pa_nil)))))) (pg_tup rfl (pgs_cons (pg_name (i := 2) scLaw.nd rfl (Or.inr rfl)) (pgs_cons (pg_name (i := 3) scLaw.nd rfl (Or.inl rfl)) pgs_nil))))⟩
    (l_cons ⟨(ps_set (i := 4) scLaw.nd rfl (Or.inl rfl) (pe_lstA (pa_cons (pv 3) (pa_cons (pc1 G3 F3 hr2 (pa_cons (pv 1) (pa_cons (pv 2) pa_nil))) pa_nil))))⟩
    (l_cons ⟨(ps_setC (iy := 5) (fr := ["_law_net_here"]) (js := [2]) scLaw.nd rfl (Or.inl rfl) rfl (pi_list (pv 4)) (by decide +kernel) rfl (by decide +kernel) rfl (by show ∀ y : Str × NameKind, y ∈ _ → y.2 = NameKind.free → List.lookup y.1 (defScope sLaw).names = some NameKind.cell; decide +kernel) (by decide +kernel) rfl (by decide +kernel) (fun _ _ _ _ _ => ⟨(pc1 G4 F4 hr2 (pa_cons (pv 1) (pa_cons (pv 0) pa_nil))), pts_nil⟩))⟩
    (l_cons ⟨(ps_setC (iy := 6) (fr := ["_law_net_here"]) (js := [2]) scLaw.nd rfl (Or.inl rfl) rfl (pi_list (pv 4)) (by decide +kernel) rfl (by decide +kernel) rfl (by show ∀ y : Str × NameKind, y ∈ _ → y.2 = NameKind.free → List.lookup y.1 (defScope sLaw).names = some NameKind.cell; decide +kernel) (by decide +kernel) rfl (by decide +kernel) (fun _ _ _ _ _ => ⟨(pc1 G5 F5 hr2 (pa_cons (pv 1) (pa_cons (pv 0) pa_nil))), pts_nil⟩))⟩
    (l_cons ⟨(ps_for PassesOwn.never rfl (pi_range1 rfl T2.range (pa_cons pe_int pa_nil)) (pg_name (i := 7) scLaw.nd rfl (Or.inl rfl)) (PSl.h (l_cons ⟨(ps_asg (pc1 G6 F6 hr (pa_cons (pv 1) (pa_cons (pv 2) (pa_cons (pv 4) pa_nil)))) (pg_tup rfl (pgs_cons (pg_name (i := 2) scLaw.nd rfl (Or.inr rfl)) (pgs_cons (pg_name (i := 4) scLaw.nd rfl (Or.inl rfl)) (pgs_cons (pg_name (i := 8) scLaw.nd rfl (Or.inr rfl)) pgs_nil)))))⟩
    (l_cons ⟨(ps_setC (iy := 6) (fr := ["_law_times"]) (js := [8]) scLaw.nd rfl (Or.inl rfl) rfl (pi_list (pv 6)) (by decide +kernel) rfl (by decide +kernel) rfl (by show ∀ y : Str × NameKind, y ∈ _ → y.2 = NameKind.free → List.lookup y.1 (defScope sLaw).names = some NameKind.cell; decide +kernel) (by decide +kernel) rfl (by decide +kernel) (fun _ _ _ _ _ => ⟨(pe_op op_mul (pv 0) (pv 1)), pts_nil⟩))⟩
    (l_cons ⟨(ps_if (pt_cmpR op_isNotB (pc1 G7 F7 hr (pa_cons (pv 2) pa_nil)) pe_bl (nomark _)) (pss_one (ps_ret pe_bl)) pss_nil)⟩
    (l_one ⟨(ps_for PassesOwn.never rfl (pi_range1 rfl T2.range (pa_cons pe_int pa_nil)) (pg_name (i := 9) scLaw.nd rfl (Or.inl rfl)) (PSl.h (l_cons ⟨(ps_if (PW.pt (pw_or (pt_cmpR op_isNotB (pc1 G8 F8 hr3 (pa_cons (pv 2) (pa_cons (pe_ix ix_list (pv 4) (pv 9) (fun _ _ => rfl)) pa_nil))) pe_bl (nomark _)) (pw_or1 (pt_cmpR op_ne (pc1 G9 F9 hr (pa_cons (pv 2) (pa_cons (pe_ix ix_list (pv 4) (pv 9) (fun _ _ => rfl)) pa_nil))) (pe_ix ix_list (pv 5) (pv 9) (fun _ _ => rfl)) (nomark _))))) (pss_one (ps_ret pe_bl)) pss_nil)⟩
    (l_cons ⟨(ps_set (i := 10) scLaw.nd rfl (Or.inl rfl) (pc1 G10 F10 hr2 (pa_cons (pv 2) (pa_cons (pe_ix ix_list (pv 4) (pv 9) (fun _ _ => rfl)) (pa_cons (pe_op op_sub (pc1 G11 F11 hr1 (pa_cons (pv 1) (pa_cons (pe_op op_pow pe_int pe_int) pa_nil))) (pe_op op_pow pe_int pe_int)) pa_nil)))))⟩
    (l_one ⟨(ps_if (PW.pt (pw_or (pt_cmpR op_ne (pc1 G12 F12 hr4 (pa_cons (pv 2) (pa_cons (pe_ix ix_list (pv 4) (pv 9) (fun _ _ => rfl)) pa_nil))) (pe_ix ix_list (pv 6) (pv 9) (fun _ _ => rfl)) (nomark _)) (pw_or (pt_cmpR op_ne (pc1 G12 F12 hr4 (pa_cons (pv 2) (pa_cons (pv 10) pa_nil))) (pe_ix ix_list (pv 6) (pv 9) (fun _ _ => rfl)) (nomark _)) (pw_or1 (pt_cmpR op_ne (pc1 G9 F9 hr (pa_cons (pv 2) (pa_cons (pv 10) pa_nil))) (pe_ix ix_list (pv 5) (pv 9) (fun _ _ => rfl)) (nomark _)))))) (pss_one (ps_ret pe_bl)) pss_nil)⟩)))))⟩))))))⟩
    (l_one ⟨(ps_ret pe_bl)⟩))))))), ?_⟩
  refine ⟨_, rfl, a, ns, 700, rfl, ha, by decide, by decide, fun p H1 H2 S1 hp1 M2 => ?_⟩
  refine ⟨_, rfl, _, _, rfl, rfl, ⟨by decide, by decide, by decide⟩, p, 16, 60, 40, _, rfl, M2.2, by decide, by decide, by decide, by decide, by decide, by decide, by decide, by decide, fun t v hd b m sp hs H3 M3 h3 hv N b33 hhs hlh hall ho45 => ?_⟩
  have m1 := N.m1
  have m2 := N.m2
  obtain ⟨n, rfl⟩ : ∃ n : Nat, m = (n : Int) := ⟨m.toNat, by omega⟩
  obtain ⟨tn, pn, ys, rfl, ht, hpn, hl, hy⟩ := netP_of hv
  have b1 := N.b1
  have hb61 : b < 10 ^ 61 := Int.lt_of_le_of_lt b33 (by decide)
  have hdk := M3.2
  refine ⟨t, _, rfl, SqT.of h3, rfl, _, _, rfl, _, _, rfl, rfl, ?_⟩
  clear h3 M3 M2
  -- the tables
  refine ⟨_, rfl, _, rfl, _, rfl, p, tn, b, (n : Int), _, rfl, hdk, ht, b1, hb61, by omega, m2, fun ud ts2 H4 M4 h4 l4 all4 => ⟨(by show 2 ≤ sizeLine; decide), fun L H5 S5 h5 => ?_⟩⟩
  have K5 : TupK H3 H5 := (Md.tupK hdk M4).trans (Same.tupK S5)
  have hdk5 := M4.2.same S5
  have hv5 := netP_keepM K5 hv
  have two5 : TwoT H5 L hs ts2 := ⟨hd, ud, h5, K5 _ _ hhs, S5 _ _ h4⟩
  have T0 : TabV b n hs := ⟨by omega, hall⟩
  have T1 : TabV b n ts2 := ⟨by omega, all4⟩
  have W0 : NetW b n sp 0 := ⟨N, by rw [Int.pow_zero, Int.mul_one]; exact b33, fun x hx => by rw [Int.pow_zero, Int.mul_one]; exact ho45 x hx⟩
  -- whether they fit, and what they wait
  refine ⟨_, rfl, L, rfl, ⟨_, SqL.of h5⟩, ?_⟩
  refine comp_two2 (K := K) (y0 := .bl (fitsM b hs sp)) (y1 := .bl (fitsM b ts2 sp)) h5 (fun H6 R S6 kR => ?_) (fun H6 R S6 kR => ?_) (fun Ld H6 S6 hLd => ?_)
  · exact ⟨_, rfl, _, rfl, .ref tn, hd, b, (n : Int), sp, hs, rfl, hv5.same S6, S6 _ _ (K5 _ _ hhs), N.rdyV T0, fun H7 S7 => kR H7 S7⟩
  · exact ⟨_, rfl, _, rfl, .ref tn, ud, b, (n : Int), sp, ts2, rfl, hv5.same S6, S6 _ _ (S5 _ _ h4), N.rdyV T1, fun H7 S7 => kR H7 S7⟩
  have nLd := (hdk5.same S6).ne hLd
  have S7 : Same H5 (upd H6 Ld (.lst [.bl (fitsM b hs sp), .bl (fitsM b ts2 sp)])) := S6.put hLd
  have h7 : (upd H6 Ld (.lst [.bl (fitsM b hs sp), .bl (fitsM b ts2 sp)])) Ld = some (.lst [.bl (fitsM b hs sp), .bl (fitsM b ts2 sp)]) := upd_same
  generalize upd H6 Ld (.lst [.bl (fitsM b hs sp), .bl (fitsM b ts2 sp)]) = H7 at S7 h7 ⊢
  clear S6 hLd
  refine ⟨_, rfl, L, rfl, ⟨_, SqL.of (S7 _ _ h5)⟩, ?_⟩
  refine comp_two2 (K := K) (y0 := .int (waitOfM b hs sp)) (y1 := .int (waitOfM b ts2 sp)) (S7 _ _ h5) (fun H8 R S8 kR => ?_) (fun H8 R S8 kR => ?_) (fun Lw H8 S8 hLw => ?_)
  · exact ⟨_, rfl, _, rfl, .ref tn, hd, b, (n : Int), sp, hs, rfl, (hv5.same S7).same S8, S8 _ _ (S7 _ _ (K5 _ _ hhs)), N.rdyV T0, N.ws, fun H9 S9 => kR H9 S9⟩
  · exact ⟨_, rfl, _, rfl, .ref tn, ud, b, (n : Int), sp, ts2, rfl, (hv5.same S7).same S8, S8 _ _ (S7 _ _ (S5 _ _ h4)), N.rdyV T1, N.ws, fun H9 S9 => kR H9 S9⟩
  have nLw := ((hdk5.same S7).same S8).ne hLw
  have S9 : Same H7 (upd H8 Lw (.lst [.int (waitOfM b hs sp), .int (waitOfM b ts2 sp)])) := S8.put hLw
  have h9 : (upd H8 Lw (.lst [.int (waitOfM b hs sp), .int (waitOfM b ts2 sp)])) Lw = some (.lst [.int (waitOfM b hs sp), .int (waitOfM b ts2 sp)]) := upd_same
  generalize upd H8 Lw (.lst [.int (waitOfM b hs sp), .int (waitOfM b ts2 sp)]) = H9 at S9 h9 ⊢
  clear S8 hLw
  have S59 := S7.trans S9
  -- six turns
  refine ⟨6, rfl, by decide, by decide, ?_⟩
  refine for_range (fun i σ H6 => Dk p H6 ∧ ∃ (v : V) (L Ld Lw : Addr) (b : Int) (n : Nat) (sp : List Sn) (t0 t1 : List Int) (v7 v8 v9 v10 : Option V), MvIn H6 v L b n sp t0 t1 i ∧ H6 Ld = some (.lst [.bl (fitsM b t0 sp), .bl (fitsM b t1 sp)]) ∧ Ld ≠ p ∧ H6 Lw = some (.lst [.int (waitOfM b t0 sp), .int (waitOfM b t1 sp)]) ∧ Lw ≠ p ∧ σ = [some (.ref a), some (.ref p), some v, some (.ref hd), some (.ref L), some (.ref Ld), some (.ref Lw), v7, v8, v9, v10])
    ⟨hdk5.same S59, .ref tn, L, Ld, Lw, b, n, sp, hs, ts2, none, none, none, none, ⟨hv5.same S59, W0, two5.same S59, T0, T1⟩, S9 _ _ h7, nLd, h9, nLw, rfl⟩ ?_ ?_
  · clear h9 S9 S59 h7 S7 nLd nLw T0 T1 W0 two5 hv5 K5 h5 S5 hdk5 h4 l4 all4 M4 hdk hall hlh hhs N b33 ho45 hl hy hpn ht hv m1 m2 b1 hb61
    rintro i σ H6 hi ⟨hdk, v, L, Ld, Lw, b, n, sp, t0, t1, v7, v8, v9, v10, M, hLd, nLd, hLw, nLw, rfl⟩
    refine ⟨_, rfl, _, rfl, _, rfl, p, L, v, b, n, sp, t0, t1, i, rfl, hdk, M, by omega, fun q v' L' c b' n' sp' t0' t1' H7 M7 h7 MV c1 c9 K0 K1 => ?_⟩
    have hLd7 := M7.at hLd nLd
    have hLw7 := M7.at hLw nLw
    have hdk7 := M7.2
    refine ⟨q, _, rfl, SqT.of h7, rfl, _, _, rfl, _, _, rfl, _, _, rfl, rfl, ?_⟩
    clear M7 h7 M hLd hLw hdk
    -- the waits
    refine ⟨_, rfl, Lw, rfl, ⟨_, SqL.of hLw7⟩, ?_⟩
    refine comp_two2 (K := K) (y0 := .int (waitOfM b t0 sp * c)) (y1 := .int (waitOfM b t1 sp * c)) hLw7 (fun H8 R S8 kR => ⟨_, rfl, _, rfl, _, _, rfl, rfl, .inr ⟨by omega, by omega⟩, kR H8 (Same.refl H8)⟩) (fun H8 R S8 kR => ⟨_, rfl, _, rfl, _, _, rfl, rfl, .inr ⟨by omega, by omega⟩, kR H8 (Same.refl H8)⟩) (fun Lx H8 S8 hLx => ?_)
    have nLx := (hdk7.same S8).ne hLx
    have S9 : Same H7 (upd H8 Lx (.lst [.int (waitOfM b t0 sp * c), .int (waitOfM b t1 sp * c)])) := S8.put hLx
    have h9 : (upd H8 Lx (.lst [.int (waitOfM b t0 sp * c), .int (waitOfM b t1 sp * c)])) Lx = some (.lst [.int (waitOfM b' t0' sp'), .int (waitOfM b' t1' sp')]) := by rw [upd_same, K0.w, K1.w]
    generalize upd H8 Lx (.lst [.int (waitOfM b t0 sp * c), .int (waitOfM b t1 sp * c)]) = H9 at S9 h9 ⊢
    clear S8 hLx
    have hLd9 : H9 Ld = some (.lst [.bl (fitsM b' t0' sp'), .bl (fitsM b' t1' sp')]) := by rw [K0.f, K1.f]; exact S9 _ _ hLd7
    have hd9 := MV.d.same S9
    have two9 := MV.two.same S9
    have hdk9 := hdk7.same S9
    have N := MV.W.N
    obtain ⟨G, ok⟩ := netP_isNet hd9 N
    -- it is a net
    refine ⟨_, rfl, v', rfl, G, fun HA SA => ⟨_, _, rfl, rfl, _, rfl, iteC (by rw [ok]; rfl) ?_⟩⟩
    have hdA := hd9.same SA
    have twoA := two9.same SA
    have hLdA := SA _ _ hLd9
    have hLxA := SA _ _ h9
    have hdkA := hdk9.same SA
    obtain ⟨tn, pn, ys, rfl, htA, _⟩ := netP_of hdA
    obtain ⟨u0, u1, hLA, hu0, hu1⟩ := id twoA
    have nLA := twoA.ne hdkA
    have b1 := N.b1
    have hb : 0 < b' := by omega
    have n2 : n' ≤ 16 := by have := N.m2; omega
    refine ⟨2, rfl, by decide, by decide, ?_⟩
    refine for_range (fun j σ HB => Md p HA HB ∧ ∃ v9 v10, σ = [some (.ref a), some (.ref p), some (.ref tn), some (.ref hd), some (.ref L'), some (.ref Ld), some (.ref Lx), some (.int ((0 : Int) + (i : Nat))), some (.int c), v9, v10]) ⟨Md.refl hdkA, _, _, rfl⟩ ?_ ?_
    · rintro j σ HB hj ⟨MB, v9, v10, rfl⟩
      have zj : (0 : Int) + (j : Nat) = (j : Nat) := Int.zero_add _
      rw [zj]
      have hj2 : j < 2 := by omega
      obtain ⟨u, ts, e1, e2, e3, hu, TV⟩ : ∃ (u : Addr) (ts : List Int), atI [V.ref u0, V.ref u1] (j : Int) = some (.ref u) ∧ atI [V.bl (fitsM b' t0' sp'), V.bl (fitsM b' t1' sp')] (j : Int) = some (.bl (fitsM b' ts sp')) ∧ atI [V.int (waitOfM b' t0' sp'), V.int (waitOfM b' t1' sp')] (j : Int) = some (.int (waitOfM b' ts sp')) ∧ HA u = some (.tup (ts.map V.int)) ∧ TabV b' n' ts := by
        match j, hj2 with
        | 0, _ => exact ⟨u0, t0', atI_nat (j := 0) rfl, atI_nat (j := 0) rfl, atI_nat (j := 0) rfl, hu0, MV.T0⟩
        | 1, _ => exact ⟨u1, t1', atI_nat (j := 1) rfl, atI_nat (j := 1) rfl, atI_nat (j := 1) rfl, hu1, MV.T1⟩
      have KB := Md.tupK hdkA MB
      have hLB := MB.at hLA nLA
      have hLdB := MB.at hLdA nLd
      have hLxB := MB.at hLxA nLx
      have htB := KB _ _ htA
      have huB := KB _ _ hu
      have hdB := netP_keepM KB hdA
      have R := N.rdyV TV
      have lts : ts.length ≤ 1000 := by have := TV.1; omega
      -- a table that fits just so
      refine ⟨_, rfl, _, rfl, _, rfl, L', _, _, _, rfl, rfl, SqL.of hLB, e1, tn, b', (n' : Int), _, .ref u, .tup (ts.map Dt.int), rfl, htB, .tup huB (IsDs.ints _), (fun ds e => by cases e; rw [List.length_map]; exact lts), fun HC SC => ⟨_, _, rfl, rfl, _, rfl, iteC (by rw [tabOk_ints TV.2 (by rw [TV.1])]; rfl) ?_⟩⟩
      refine ⟨_, rfl, _, rfl, _, rfl, L', _, _, _, rfl, rfl, SqL.of (SC _ _ hLB), e1, .ref tn, u, b', (n' : Int), sp', ts, rfl, hdB.same SC, SC _ _ huB, R, fun HD SD => ⟨_, rfl, _, rfl, Ld, _, _, _, rfl, rfl, SqL.of (SD _ _ (SC _ _ hLdB)), e2, rfl, _, rfl, iteC (by rw [decide_eq_true rfl]; rfl) ?_⟩⟩
      have SBD := SC.trans SD
      -- moved
      refine ⟨_, rfl, _, rfl, _, rfl, L', _, _, _, rfl, rfl, SqL.of (SBD _ _ hLB), e1, _, rfl, _, _, rfl, rfl, ⟨by decide, by decide, by decide⟩, p, _, rfl, MB.2.same SBD, by decide, by decide, fun r HE r0 r1 ME => ⟨_, _, rfl, rfl, ⟨by decide, by decide, by decide⟩, _, _, rfl, rfl, tn, u, b', _, ts, _, rfl, Md.tupK (MB.2.same SBD) ME _ _ (SBD _ _ htB), Md.tupK (MB.2.same SBD) ME _ _ (SBD _ _ huB), hb, lts, fun pt HF SF hF => ?_⟩⟩
      have ME' := (MB.then SBD).trans ME
      have MF := ME'.then SF
      have KF := Md.tupK hdkA MF
      have hLF := MF.at hLA nLA
      have hLdF := MF.at hLdA nLd
      have hLxF := MF.at hLxA nLx
      have hdF := netP_keepM KF hdA
      have huF := KF _ _ hu
      -- waits and fits
      refine ⟨_, rfl, _, rfl, _, rfl, L', _, _, _, rfl, rfl, SqL.of hLF, e1, .ref tn, u, b', (n' : Int), sp', ts, rfl, hdF, huF, R, N.ws, fun HG SG => ⟨_, rfl, _, rfl, Lx, _, _, _, rfl, rfl, SqL.of (SG _ _ hLxF), e3, rfl, _, rfl, iteC (by rw [decide_eq_true rfl]; rfl) ?_⟩⟩
      refine ⟨_, rfl, _, rfl, .ref tn, pt, b', (n' : Int), sp', _, rfl, hdF.same SG, SG _ _ hF, R.moved, N.ws, fun HI SI => ⟨_, rfl, _, rfl, Lx, _, _, _, rfl, rfl, SqL.of (SI _ _ (SG _ _ hLxF)), e3, rfl, _, rfl, iteC (by rw [waitOfM_moved R, decide_eq_true rfl]; rfl) ?_⟩⟩
      have SFI := SG.trans SI
      refine ⟨_, rfl, _, rfl, .ref tn, pt, b', (n' : Int), sp', _, rfl, hdF.same SFI, SFI _ _ hF, R.moved, fun HJ SJ => ⟨_, rfl, _, rfl, Ld, _, _, _, rfl, rfl, SqL.of (SJ _ _ (SFI _ _ hLdF)), e2, rfl, _, rfl, iteC (by rw [fitsM_moved R, decide_eq_true rfl]; rfl) ?_⟩⟩
      exact ⟨MF.then (SFI.trans SJ), _, _, rfl⟩
    · rintro σ HB ⟨MB, v9, v10, rfl⟩
      exact ⟨MB.2, .ref tn, L', Ld, Lx, b', n', sp', t0', t1', _, _, _, _, ⟨netP_keepM (Md.tupK hdkA MB) hdA, MV.W, twoA.md hdkA MB, MV.T0, MV.T1⟩, MB.at hLdA nLd, nLd, MB.at hLxA nLx, nLx, rfl⟩
  · rintro σ H6 ⟨_, _⟩
    exact k H6
end
end HN

/-! What the top has written, and the law's own head. -/
namespace HN
open PySem L2 PyProof.Rows
theorem args0 {P : List Value → Prop} (h : P []) : ∀ us : List Value, us.length = 0 → P us := fun us hl => by rw [List.length_eq_zero_iff.mp hl]; exact h
theorem args1 {P : List Value → Prop} (h : ∀ x0, P [x0]) : ∀ us : List Value, us.length = 1 → P us := by
  intro us hl
  obtain _ | ⟨x0, us⟩ := us <;> try (cases hl; done)
  obtain _ | ⟨y, us⟩ := us
  · exact h x0
  · exact absurd hl (by simp only [List.length_cons]; omega)
theorem args2 {P : List Value → Prop} (h : ∀ x0 x1, P [x0, x1]) : ∀ us : List Value, us.length = 2 → P us := by
  intro us hl
  obtain _ | ⟨x0, us⟩ := us <;> try (cases hl; done)
  obtain _ | ⟨x1, us⟩ := us <;> try (cases hl; done)
  obtain _ | ⟨y, us⟩ := us
  · exact h x0 x1
  · exact absurd hl (by simp only [List.length_cons]; omega)
theorem args3 {P : List Value → Prop} (h : ∀ x0 x1 x2, P [x0, x1, x2]) : ∀ us : List Value, us.length = 3 → P us := by
  intro us hl
  obtain _ | ⟨x0, us⟩ := us <;> try (cases hl; done)
  obtain _ | ⟨x1, us⟩ := us <;> try (cases hl; done)
  obtain _ | ⟨x2, us⟩ := us <;> try (cases hl; done)
  obtain _ | ⟨y, us⟩ := us
  · exact h x0 x1 x2
  · exact absurd hl (by simp only [List.length_cons]; omega)
theorem args5 {P : List Value → Prop} (h : ∀ x0 x1 x2 x3 x4, P [x0, x1, x2, x3, x4]) : ∀ us : List Value, us.length = 5 → P us := by
  intro us hl
  obtain _ | ⟨x0, us⟩ := us <;> try (cases hl; done)
  obtain _ | ⟨x1, us⟩ := us <;> try (cases hl; done)
  obtain _ | ⟨x2, us⟩ := us <;> try (cases hl; done)
  obtain _ | ⟨x3, us⟩ := us <;> try (cases hl; done)
  obtain _ | ⟨x4, us⟩ := us <;> try (cases hl; done)
  obtain _ | ⟨y, us⟩ := us
  · exact h x0 x1 x2 x3 x4
  · exact absurd hl (by simp only [List.length_cons]; omega)
theorem all_mk {l : PySem.W.OpenLaw} {w : World} {K : PySem.W.Frag} {h : Heap} {mg : Str → Option Value} {fa f1 f2 f3 f4 f5 f6 f7 f8 f9 f10 f11 f12 f13 f14 f15 f16 f17 f18 f19 f20 f21 f22 f23 f24 f25 f26 f27 f28 f29 f30 f31 f32 f33 f34 f35 f36 f37 f38 f39 f40 : Addr} (X : K.In h) (G : h.Ns mainGlobals mg) (hfa : mg "law" = some (.ref fa))
    {od1 an1 od2 an2 od3 an3 od4 an4 od5 an5 od6 an6 od7 an7 od8 an8 od9 an9 od10 an10 od11 an11 od12 an12 od13 an13 od14 an14 od15 an15 od16 an16 od17 an17 od18 an18 od19 an19 od20 an20 od21 an21 od22 an22 od23 an23 od24 an24 od25 an25 od26 an26 od27 an27 od28 an28 od29 an29 od30 an30 od31 an31 od32 an32 od33 an33 od34 an34 od35 an35 od36 an36 od37 an37 od38 an38 od39 an39 od40 an40 : Option Addr} {sl1 sl2 sl3 sl4 sl5 sl6 sl7 sl8 sl9 sl10 sl11 sl12 sl13 sl14 sl15 sl16 sl17 sl18 sl19 sl20 sl21 sl22 sl23 sl24 sl25 sl26 sl27 sl28 sl29 sl30 sl31 sl32 sl33 sl34 sl35 sl36 sl37 sl38 sl39 sl40 : Array (Option Value)} {oc1 kV1 dc1 pm1 cd1 ct1 oc2 kV2 dc2 pm2 cd2 ct2 oc3 kV3 dc3 pm3 cd3 ct3 oc4 kV4 dc4 pm4 cd4 ct4 oc5 kV5 dc5 pm5 cd5 ct5 oc6 kV6 dc6 pm6 cd6 ct6 oc7 kV7 dc7 pm7 cd7 ct7 oc8 kV8 dc8 pm8 cd8 ct8 oc9 kV9 dc9 pm9 cd9 ct9 oc10 kV10 dc10 pm10 cd10 ct10 oc11 kV11 dc11 pm11 cd11 ct11 oc12 kV12 dc12 pm12 cd12 ct12 oc13 kV13 dc13 pm13 cd13 ct13 oc14 kV14 dc14 pm14 cd14 ct14 oc15 kV15 dc15 pm15 cd15 ct15 oc16 kV16 dc16 pm16 cd16 ct16 oc17 kV17 dc17 pm17 cd17 ct17 oc18 kV18 dc18 pm18 cd18 ct18 oc19 kV19 dc19 pm19 cd19 ct19 oc20 kV20 dc20 pm20 cd20 ct20 oc21 kV21 dc21 pm21 cd21 ct21 oc22 kV22 dc22 pm22 cd22 ct22 oc23 kV23 dc23 pm23 cd23 ct23 oc24 kV24 dc24 pm24 cd24 ct24 oc25 kV25 dc25 pm25 cd25 ct25 oc26 kV26 dc26 pm26 cd26 ct26 oc27 kV27 dc27 pm27 cd27 ct27 oc28 kV28 dc28 pm28 cd28 ct28 oc29 kV29 dc29 pm29 cd29 ct29 oc30 kV30 dc30 pm30 cd30 ct30 oc31 kV31 dc31 pm31 cd31 ct31 oc32 kV32 dc32 pm32 cd32 ct32 oc33 kV33 dc33 pm33 cd33 ct33 oc34 kV34 dc34 pm34 cd34 ct34 oc35 kV35 dc35 pm35 cd35 ct35 oc36 kV36 dc36 pm36 cd36 ct36 oc37 kV37 dc37 pm37 cd37 ct37 oc38 kV38 dc38 pm38 cd38 ct38 oc39 kV39 dc39 pm39 cd39 ct39 oc40 kV40 dc40 pm40 cd40 ct40 : Value} {t1 t2 t3 : Tok}
    (a1 : PySem.W.nsIn K mainGlobals "greatest_whole" = some (some (.ref f1))) (l1 : K.lookup f1 = some ⟨oc1, od1, .func (PySem.W.fnOf "greatest_whole" "greatest_whole" (defArgs sGW) (defBody sGW) (defScope sGW) .none kV1 dc1 pm1 an1 cd1 ct1), sl1⟩) (c1 : PySem.W.codeIn K cd1 "greatest_whole" = true) (k1 : PySem.W.keepIn K (.ref f1) = true)
    (a2 : PySem.W.nsIn K mainGlobals "is_whole" = some (some (.ref f2))) (l2 : K.lookup f2 = some ⟨oc2, od2, .func (PySem.W.fnOf "is_whole" "is_whole" (defArgs sWhole) (defBody sWhole) (defScope sWhole) .none kV2 dc2 pm2 an2 cd2 ct2), sl2⟩) (c2 : PySem.W.codeIn K cd2 "is_whole" = true) (k2 : PySem.W.keepIn K (.ref f2) = true)
    (a3 : PySem.W.nsIn K mainGlobals "is_within" = some (some (.ref f3))) (l3 : K.lookup f3 = some ⟨oc3, od3, .func (PySem.W.fnOf "is_within" "is_within" (defArgs sWithin) (defBody sWithin) (defScope sWithin) .none kV3 dc3 pm3 an3 cd3 ct3), sl3⟩) (c3 : PySem.W.codeIn K cd3 "is_within" = true) (k3 : PySem.W.keepIn K (.ref f3) = true)
    (a4 : PySem.W.nsIn K mainGlobals "are_ends" = some (some (.ref f4))) (l4 : K.lookup f4 = some ⟨oc4, od4, .func (PySem.W.fnOf "are_ends" "are_ends" (defArgs sEnds) (defBody sEnds) (defScope sEnds) .none kV4 dc4 pm4 an4 cd4 ct4), sl4⟩) (c4 : PySem.W.codeIn K cd4 "are_ends" = true) (k4 : PySem.W.keepIn K (.ref f4) = true)
    (a5 : PySem.W.nsIn K mainGlobals "are_lengths" = some (some (.ref f5))) (l5 : K.lookup f5 = some ⟨oc5, od5, .func (PySem.W.fnOf "are_lengths" "are_lengths" (defArgs sLens) (defBody sLens) (defScope sLens) .none kV5 dc5 pm5 an5 cd5 ct5), sl5⟩) (c5 : PySem.W.codeIn K cd5 "are_lengths" = true) (k5 : PySem.W.keepIn K (.ref f5) = true)
    (a6 : PySem.W.nsIn K mainGlobals "is_span" = some (some (.ref f6))) (l6 : K.lookup f6 = some ⟨oc6, od6, .func (PySem.W.fnOf "is_span" "is_span" (defArgs sSpan) (defBody sSpan) (defScope sSpan) .none kV6 dc6 pm6 an6 cd6 ct6), sl6⟩) (c6 : PySem.W.codeIn K cd6 "is_span" = true) (k6 : PySem.W.keepIn K (.ref f6) = true)
    (a7 : PySem.W.nsIn K mainGlobals "is_net" = some (some (.ref f7))) (l7 : K.lookup f7 = some ⟨oc7, od7, .func (PySem.W.fnOf "is_net" "is_net" (defArgs sNet) (defBody sNet) (defScope sNet) .none kV7 dc7 pm7 an7 cd7 ct7), sl7⟩) (c7 : PySem.W.codeIn K cd7 "is_net" = true) (k7 : PySem.W.keepIn K (.ref f7) = true)
    (a8 : PySem.W.nsIn K mainGlobals "width_of" = some (some (.ref f8))) (l8 : K.lookup f8 = some ⟨oc8, od8, .func (PySem.W.fnOf "width_of" "width_of" (defArgs sWidth) (defBody sWidth) (defScope sWidth) .none kV8 dc8 pm8 an8 cd8 ct8), sl8⟩) (c8 : PySem.W.codeIn K cd8 "width_of" = true) (k8 : PySem.W.keepIn K (.ref f8) = true)
    (a9 : PySem.W.nsIn K mainGlobals "with_spans" = some (some (.ref f9))) (l9 : K.lookup f9 = some ⟨oc9, od9, .func (PySem.W.fnOf "with_spans" "with_spans" (defArgs sWithSp) (defBody sWithSp) (defScope sWithSp) .none kV9 dc9 pm9 an9 cd9 ct9), sl9⟩) (c9 : PySem.W.codeIn K cd9 "with_spans" = true) (k9 : PySem.W.keepIn K (.ref f9) = true)
    (a10 : PySem.W.nsIn K mainGlobals "is_table" = some (some (.ref f10))) (l10 : K.lookup f10 = some ⟨oc10, od10, .func (PySem.W.fnOf "is_table" "is_table" (defArgs sTable) (defBody sTable) (defScope sTable) .none kV10 dc10 pm10 an10 cd10 ct10), sl10⟩) (c10 : PySem.W.codeIn K cd10 "is_table" = true) (k10 : PySem.W.keepIn K (.ref f10) = true)
    (a11 : PySem.W.nsIn K mainGlobals "rest_by" = some (some (.ref f11))) (l11 : K.lookup f11 = some ⟨oc11, od11, .func (PySem.W.fnOf "rest_by" "rest_by" (defArgs sRest) (defBody sRest) (defScope sRest) .none kV11 dc11 pm11 an11 cd11 ct11), sl11⟩) (c11 : PySem.W.codeIn K cd11 "rest_by" = true) (k11 : PySem.W.keepIn K (.ref f11) = true)
    (a12 : PySem.W.nsIn K mainGlobals "wait_in" = some (some (.ref f12))) (l12 : K.lookup f12 = some ⟨oc12, od12, .func (PySem.W.fnOf "wait_in" "wait_in" (defArgs sWaitIn) (defBody sWaitIn) (defScope sWaitIn) .none kV12 dc12 pm12 an12 cd12 ct12), sl12⟩) (c12 : PySem.W.codeIn K cd12 "wait_in" = true) (k12 : PySem.W.keepIn K (.ref f12) = true)
    (a13 : PySem.W.nsIn K mainGlobals "waits_of" = some (some (.ref f13))) (l13 : K.lookup f13 = some ⟨oc13, od13, .func (PySem.W.fnOf "waits_of" "waits_of" (defArgs sWaits) (defBody sWaits) (defScope sWaits) .none kV13 dc13 pm13 an13 cd13 ct13), sl13⟩) (c13 : PySem.W.codeIn K cd13 "waits_of" = true) (k13 : PySem.W.keepIn K (.ref f13) = true)
    (a14 : PySem.W.nsIn K mainGlobals "broken_in" = some (some (.ref f14))) (l14 : K.lookup f14 = some ⟨oc14, od14, .func (PySem.W.fnOf "broken_in" "broken_in" (defArgs sBroken) (defBody sBroken) (defScope sBroken) .none kV14 dc14 pm14 an14 cd14 ct14), sl14⟩) (c14 : PySem.W.codeIn K cd14 "broken_in" = true) (k14 : PySem.W.keepIn K (.ref f14) = true)
    (a15 : PySem.W.nsIn K mainGlobals "fits" = some (some (.ref f15))) (l15 : K.lookup f15 = some ⟨oc15, od15, .func (PySem.W.fnOf "fits" "fits" (defArgs sFits) (defBody sFits) (defScope sFits) .none kV15 dc15 pm15 an15 cd15 ct15), sl15⟩) (c15 : PySem.W.codeIn K cd15 "fits" = true) (k15 : PySem.W.keepIn K (.ref f15) = true)
    (a16 : PySem.W.nsIn K mainGlobals "wait_of" = some (some (.ref f16))) (l16 : K.lookup f16 = some ⟨oc16, od16, .func (PySem.W.fnOf "wait_of" "wait_of" (defArgs sWaitOf) (defBody sWaitOf) (defScope sWaitOf) .none kV16 dc16 pm16 an16 cd16 ct16), sl16⟩) (c16 : PySem.W.codeIn K cd16 "wait_of" = true) (k16 : PySem.W.keepIn K (.ref f16) = true)
    (a17 : PySem.W.nsIn K mainGlobals "moved_by" = some (some (.ref f17))) (l17 : K.lookup f17 = some ⟨oc17, od17, .func (PySem.W.fnOf "moved_by" "moved_by" (defArgs sMoved) (defBody sMoved) (defScope sMoved) .none kV17 dc17 pm17 an17 cd17 ct17), sl17⟩) (c17 : PySem.W.codeIn K cd17 "moved_by" = true) (k17 : PySem.W.keepIn K (.ref f17) = true)
    (a18 : PySem.W.nsIn K mainGlobals "mirrored_span" = some (some (.ref f18))) (l18 : K.lookup f18 = some ⟨oc18, od18, .func (PySem.W.fnOf "mirrored_span" "mirrored_span" (defArgs sMirS) (defBody sMirS) (defScope sMirS) .none kV18 dc18 pm18 an18 cd18 ct18), sl18⟩) (c18 : PySem.W.codeIn K cd18 "mirrored_span" = true) (k18 : PySem.W.keepIn K (.ref f18) = true)
    (a19 : PySem.W.nsIn K mainGlobals "mirrored" = some (some (.ref f19))) (l19 : K.lookup f19 = some ⟨oc19, od19, .func (PySem.W.fnOf "mirrored" "mirrored" (defArgs sMir) (defBody sMir) (defScope sMir) .none kV19 dc19 pm19 an19 cd19 ct19), sl19⟩) (c19 : PySem.W.codeIn K cd19 "mirrored" = true) (k19 : PySem.W.keepIn K (.ref f19) = true)
    (a20 : PySem.W.nsIn K mainGlobals "table_mirrored" = some (some (.ref f20))) (l20 : K.lookup f20 = some ⟨oc20, od20, .func (PySem.W.fnOf "table_mirrored" "table_mirrored" (defArgs sTabMir) (defBody sTabMir) (defScope sTabMir) .none kV20 dc20 pm20 an20 cd20 ct20), sl20⟩) (c20 : PySem.W.codeIn K cd20 "table_mirrored" = true) (k20 : PySem.W.keepIn K (.ref f20) = true)
    (a21 : PySem.W.nsIn K mainGlobals "stretched_span" = some (some (.ref f21))) (l21 : K.lookup f21 = some ⟨oc21, od21, .func (PySem.W.fnOf "stretched_span" "stretched_span" (defArgs sStrS) (defBody sStrS) (defScope sStrS) .none kV21 dc21 pm21 an21 cd21 ct21), sl21⟩) (c21 : PySem.W.codeIn K cd21 "stretched_span" = true) (k21 : PySem.W.keepIn K (.ref f21) = true)
    (a22 : PySem.W.nsIn K mainGlobals "stretched" = some (some (.ref f22))) (l22 : K.lookup f22 = some ⟨oc22, od22, .func (PySem.W.fnOf "stretched" "stretched" (defArgs sStr) (defBody sStr) (defScope sStr) .none kV22 dc22 pm22 an22 cd22 ct22), sl22⟩) (c22 : PySem.W.codeIn K cd22 "stretched" = true) (k22 : PySem.W.keepIn K (.ref f22) = true)
    (a23 : PySem.W.nsIn K mainGlobals "table_stretched" = some (some (.ref f23))) (l23 : K.lookup f23 = some ⟨oc23, od23, .func (PySem.W.fnOf "table_stretched" "table_stretched" (defArgs sTabStr) (defBody sTabStr) (defScope sTabStr) .none kV23 dc23 pm23 an23 cd23 ct23), sl23⟩) (c23 : PySem.W.codeIn K cd23 "table_stretched" = true) (k23 : PySem.W.keepIn K (.ref f23) = true)
    (a24 : PySem.W.nsIn K mainGlobals "span_named" = some (some (.ref f24))) (l24 : K.lookup f24 = some ⟨oc24, od24, .func (PySem.W.fnOf "span_named" "span_named" (defArgs sNamed) (defBody sNamed) (defScope sNamed) .none kV24 dc24 pm24 an24 cd24 ct24), sl24⟩) (c24 : PySem.W.codeIn K cd24 "span_named" = true) (k24 : PySem.W.keepIn K (.ref f24) = true)
    (a25 : PySem.W.nsIn K mainGlobals "is_order" = some (some (.ref f25))) (l25 : K.lookup f25 = some ⟨oc25, od25, .func (PySem.W.fnOf "is_order" "is_order" (defArgs sIsOrder) (defBody sIsOrder) (defScope sIsOrder) .none kV25 dc25 pm25 an25 cd25 ct25), sl25⟩) (c25 : PySem.W.codeIn K cd25 "is_order" = true) (k25 : PySem.W.keepIn K (.ref f25) = true)
    (a26 : PySem.W.nsIn K mainGlobals "check_order" = some (some (.ref f26))) (l26 : K.lookup f26 = some ⟨oc26, od26, .func (PySem.W.fnOf "check_order" "check_order" (defArgs sCheckO) (defBody sCheckO) (defScope sCheckO) .none kV26 dc26 pm26 an26 cd26 ct26), sl26⟩) (c26 : PySem.W.codeIn K cd26 "check_order" = true) (k26 : PySem.W.keepIn K (.ref f26) = true)
    (a27 : PySem.W.nsIn K mainGlobals "named_anew" = some (some (.ref f27))) (l27 : K.lookup f27 = some ⟨oc27, od27, .func (PySem.W.fnOf "named_anew" "named_anew" (defArgs sNamedA) (defBody sNamedA) (defScope sNamedA) .none kV27 dc27 pm27 an27 cd27 ct27), sl27⟩) (c27 : PySem.W.codeIn K cd27 "named_anew" = true) (k27 : PySem.W.keepIn K (.ref f27) = true)
    (a28 : PySem.W.nsIn K mainGlobals "table_named_anew" = some (some (.ref f28))) (l28 : K.lookup f28 = some ⟨oc28, od28, .func (PySem.W.fnOf "table_named_anew" "table_named_anew" (defArgs sTabNam) (defBody sTabNam) (defScope sTabNam) .none kV28 dc28 pm28 an28 cd28 ct28), sl28⟩) (c28 : PySem.W.codeIn K cd28 "table_named_anew" = true) (k28 : PySem.W.keepIn K (.ref f28) = true)
    (a29 : PySem.W.nsIn K mainGlobals "side_by_side" = some (some (.ref f29))) (l29 : K.lookup f29 = some ⟨oc29, od29, .func (PySem.W.fnOf "side_by_side" "side_by_side" (defArgs sSide) (defBody sSide) (defScope sSide) .none kV29 dc29 pm29 an29 cd29 ct29), sl29⟩) (c29 : PySem.W.codeIn K cd29 "side_by_side" = true) (k29 : PySem.W.keepIn K (.ref f29) = true)
    (a30 : PySem.W.nsIn K mainGlobals "_law_numbers" = some (some (.ref f30))) (l30 : K.lookup f30 = some ⟨oc30, od30, .func (PySem.W.fnOf "_law_numbers" "_law_numbers" (defArgs sNums) (defBody sNums) (defScope sNums) .none kV30 dc30 pm30 an30 cd30 ct30), sl30⟩) (c30 : PySem.W.codeIn K cd30 "_law_numbers" = true) (k30 : PySem.W.keepIn K (.ref f30) = true)
    (a31 : PySem.W.nsIn K mainGlobals "_law_draw" = some (some (.ref f31))) (l31 : K.lookup f31 = some ⟨oc31, od31, .func (PySem.W.fnOf "_law_draw" "_law_draw" (defArgs sDrawD) (defBody sDrawD) (defScope sDrawD) .none kV31 dc31 pm31 an31 cd31 ct31), sl31⟩) (c31 : PySem.W.codeIn K cd31 "_law_draw" = true) (k31 : PySem.W.keepIn K (.ref f31) = true)
    (a32 : PySem.W.nsIn K mainGlobals "_law_span" = some (some (.ref f32))) (l32 : K.lookup f32 = some ⟨oc32, od32, .func (PySem.W.fnOf "_law_span" "_law_span" (defArgs sSpanD) (defBody sSpanD) (defScope sSpanD) .none kV32 dc32 pm32 an32 cd32 ct32), sl32⟩) (c32 : PySem.W.codeIn K cd32 "_law_span" = true) (k32 : PySem.W.keepIn K (.ref f32) = true)
    (a33 : PySem.W.nsIn K mainGlobals "_law_net" = some (some (.ref f33))) (l33 : K.lookup f33 = some ⟨oc33, od33, .func (PySem.W.fnOf "_law_net" "_law_net" (defArgs sNetD) (defBody sNetD) (defScope sNetD) .none kV33 dc33 pm33 an33 cd33 ct33), sl33⟩) (c33 : PySem.W.codeIn K cd33 "_law_net" = true) (k33 : PySem.W.keepIn K (.ref f33) = true)
    (a34 : PySem.W.nsIn K mainGlobals "_law_waits" = some (some (.ref f34))) (l34 : K.lookup f34 = some ⟨oc34, od34, .func (PySem.W.fnOf "_law_waits" "_law_waits" (defArgs sWaitsN) (defBody sWaitsN) (defScope sWaitsN) .none kV34 dc34 pm34 an34 cd34 ct34), sl34⟩) (c34 : PySem.W.codeIn K cd34 "_law_waits" = true) (k34 : PySem.W.keepIn K (.ref f34) = true)
    (a35 : PySem.W.nsIn K mainGlobals "_law_fits" = some (some (.ref f35))) (l35 : K.lookup f35 = some ⟨oc35, od35, .func (PySem.W.fnOf "_law_fits" "_law_fits" (defArgs sFitsN) (defBody sFitsN) (defScope sFitsN) .none kV35 dc35 pm35 an35 cd35 ct35), sl35⟩) (c35 : PySem.W.codeIn K cd35 "_law_fits" = true) (k35 : PySem.W.keepIn K (.ref f35) = true)
    (a36 : PySem.W.nsIn K mainGlobals "_law_wait" = some (some (.ref f36))) (l36 : K.lookup f36 = some ⟨oc36, od36, .func (PySem.W.fnOf "_law_wait" "_law_wait" (defArgs sWaitN) (defBody sWaitN) (defScope sWaitN) .none kV36 dc36 pm36 an36 cd36 ct36), sl36⟩) (c36 : PySem.W.codeIn K cd36 "_law_wait" = true) (k36 : PySem.W.keepIn K (.ref f36) = true)
    (a37 : PySem.W.nsIn K mainGlobals "_law_drawn_table" = some (some (.ref f37))) (l37 : K.lookup f37 = some ⟨oc37, od37, .func (PySem.W.fnOf "_law_drawn_table" "_law_drawn_table" (defArgs sDrawnT) (defBody sDrawnT) (defScope sDrawnT) .none kV37 dc37 pm37 an37 cd37 ct37), sl37⟩) (c37 : PySem.W.codeIn K cd37 "_law_drawn_table" = true) (k37 : PySem.W.keepIn K (.ref f37) = true)
    (a38 : PySem.W.nsIn K mainGlobals "_law_order" = some (some (.ref f38))) (l38 : K.lookup f38 = some ⟨oc38, od38, .func (PySem.W.fnOf "_law_order" "_law_order" (defArgs sOrderL) (defBody sOrderL) (defScope sOrderL) .none kV38 dc38 pm38 an38 cd38 ct38), sl38⟩) (c38 : PySem.W.codeIn K cd38 "_law_order" = true) (k38 : PySem.W.keepIn K (.ref f38) = true)
    (a39 : PySem.W.nsIn K mainGlobals "_law_moved" = some (some (.ref f39))) (l39 : K.lookup f39 = some ⟨oc39, od39, .func (PySem.W.fnOf "_law_moved" "_law_moved" (defArgs sMovedL) (defBody sMovedL) (defScope sMovedL) .none kV39 dc39 pm39 an39 cd39 ct39), sl39⟩) (c39 : PySem.W.codeIn K cd39 "_law_moved" = true) (k39 : PySem.W.keepIn K (.ref f39) = true)
    (a40 : PySem.W.nsIn K mainGlobals "law" = some (some (.ref f40))) (l40 : K.lookup f40 = some ⟨oc40, od40, .func (PySem.W.fnOf "law" "law" (defArgs sLaw) (defBody sLaw) (defScope sLaw) .none kV40 dc40 pm40 an40 cd40 ct40), sl40⟩) (c40 : PySem.W.codeIn K cd40 "law" = true) (k40 : PySem.W.keepIn K (.ref f40) = true)
    (y1 : PySem.W.nsIn K mainGlobals "MOST_SPANS" = some (some (.int 40 t1)))
    (y2 : PySem.W.nsIn K mainGlobals "MOST_HAPPENINGS" = some (some (.int 16 t2)))
    (y3 : PySem.W.nsIn K mainGlobals "MOST_WEIGHT" = some (some (.int 1000000000000 t3)))
    (z1 : PySem.W.nsIn K mainGlobals "isinstance" = some none)
    (z2 : PySem.W.nsIn K mainGlobals "int" = some none)
    (z3 : PySem.W.nsIn K mainGlobals "bool" = some none)
    (z4 : PySem.W.nsIn K mainGlobals "tuple" = some none)
    (z5 : PySem.W.nsIn K mainGlobals "len" = some none)
    (z6 : PySem.W.nsIn K mainGlobals "min" = some none)
    (z7 : PySem.W.nsIn K mainGlobals "all" = some none)
    (z8 : PySem.W.nsIn K mainGlobals "range" = some none)
    (z9 : PySem.W.nsIn K mainGlobals "enumerate" = some none)
    (z10 : PySem.W.nsIn K mainGlobals "zip" = some none)
    (z11 : PySem.W.nsIn K mainGlobals "sum" = some none)
    (z12 : PySem.W.nsIn K mainGlobals "list" = some none)
    (z13 : PySem.W.nsIn K mainGlobals "max" = some none)
    (z14 : PySem.W.nsIn K mainGlobals "sorted" = some none)
    : ∃ fd : FuncData, (∀ (s : Shared) (v : Value), BindsTo s fd ⟨[v], []⟩ [("_law_script", v)]) ∧ ∀ base : Heap, K.In base → base.Ns mainGlobals mg → FnOk l.prog w K mg base CX0 6 fa fd ["_law_script"] (spLaw K) := by
  have e := hfa.symm.trans (PySem.W.mg_of X G a40)
  cases e
  have F1 := fun_mk (st := sGW) l1 c1 k1
  have b1 := F1.binds (ps := []) fun _ _ _ _ _ _ => args0 rfl
  have G1 : Fn K mg "greatest_whole" sGW [] f1 _ := ⟨F1, PySem.W.mg_of X G a1, b1⟩
  have F2 := fun_mk (st := sWhole) l2 c2 k2
  have b2 := F2.binds (ps := ["thing"]) fun _ _ _ _ _ _ => args1 fun _ => rfl
  have G2 : Fn K mg "is_whole" sWhole ["thing"] f2 _ := ⟨F2, PySem.W.mg_of X G a2, b2⟩
  have F3 := fun_mk (st := sWithin) l3 c3 k3
  have b3 := F3.binds (ps := ["thing", "low", "high"]) fun _ _ _ _ _ _ => args3 fun _ _ _ => rfl
  have G3 : Fn K mg "is_within" sWithin ["thing", "low", "high"] f3 _ := ⟨F3, PySem.W.mg_of X G a3, b3⟩
  have F4 := fun_mk (st := sEnds) l4 c4 k4
  have b4 := F4.binds (ps := ["many", "start", "goal"]) fun _ _ _ _ _ _ => args3 fun _ _ _ => rfl
  have G4 : Fn K mg "are_ends" sEnds ["many", "start", "goal"] f4 _ := ⟨F4, PySem.W.mg_of X G a4, b4⟩
  have F5 := fun_mk (st := sLens) l5 c5 k5
  have b5 := F5.binds (ps := ["beat", "least", "most"]) fun _ _ _ _ _ _ => args3 fun _ _ _ => rfl
  have G5 : Fn K mg "are_lengths" sLens ["beat", "least", "most"] f5 _ := ⟨F5, PySem.W.mg_of X G a5, b5⟩
  have F6 := fun_mk (st := sSpan) l6 c6 k6
  have b6 := F6.binds (ps := ["beat", "many", "thing"]) fun _ _ _ _ _ _ => args3 fun _ _ _ => rfl
  have G6 : Fn K mg "is_span" sSpan ["beat", "many", "thing"] f6 _ := ⟨F6, PySem.W.mg_of X G a6, b6⟩
  have F7 := fun_mk (st := sNet) l7 c7 k7
  have b7 := F7.binds (ps := ["thing"]) fun _ _ _ _ _ _ => args1 fun _ => rfl
  have G7 : Fn K mg "is_net" sNet ["thing"] f7 _ := ⟨F7, PySem.W.mg_of X G a7, b7⟩
  have F8 := fun_mk (st := sWidth) l8 c8 k8
  have b8 := F8.binds (ps := ["net", "span"]) fun _ _ _ _ _ _ => args2 fun _ _ => rfl
  have G8 : Fn K mg "width_of" sWidth ["net", "span"] f8 _ := ⟨F8, PySem.W.mg_of X G a8, b8⟩
  have F9 := fun_mk (st := sWithSp) l9 c9 k9
  have b9 := F9.binds (ps := ["net", "more"]) fun _ _ _ _ _ _ => args2 fun _ _ => rfl
  have G9 : Fn K mg "with_spans" sWithSp ["net", "more"] f9 _ := ⟨F9, PySem.W.mg_of X G a9, b9⟩
  have F10 := fun_mk (st := sTable) l10 c10 k10
  have b10 := F10.binds (ps := ["net", "thing"]) fun _ _ _ _ _ _ => args2 fun _ _ => rfl
  have G10 : Fn K mg "is_table" sTable ["net", "thing"] f10 _ := ⟨F10, PySem.W.mg_of X G a10, b10⟩
  have F11 := fun_mk (st := sRest) l11 c11 k11
  have b11 := F11.binds (ps := ["beat", "number"]) fun _ _ _ _ _ _ => args2 fun _ _ => rfl
  have G11 : Fn K mg "rest_by" sRest ["beat", "number"] f11 _ := ⟨F11, PySem.W.mg_of X G a11, b11⟩
  have F12 := fun_mk (st := sWaitIn) l12 c12 k12
  have b12 := F12.binds (ps := ["net", "table", "span"]) fun _ _ _ _ _ _ => args3 fun _ _ _ => rfl
  have G12 : Fn K mg "wait_in" sWaitIn ["net", "table", "span"] f12 _ := ⟨F12, PySem.W.mg_of X G a12, b12⟩
  have F13 := fun_mk (st := sWaits) l13 c13 k13
  have b13 := F13.binds (ps := ["net", "table"]) fun _ _ _ _ _ _ => args2 fun _ _ => rfl
  have G13 : Fn K mg "waits_of" sWaits ["net", "table"] f13 _ := ⟨F13, PySem.W.mg_of X G a13, b13⟩
  have F14 := fun_mk (st := sBroken) l14 c14 k14
  have b14 := F14.binds (ps := ["net", "table"]) fun _ _ _ _ _ _ => args2 fun _ _ => rfl
  have G14 : Fn K mg "broken_in" sBroken ["net", "table"] f14 _ := ⟨F14, PySem.W.mg_of X G a14, b14⟩
  have F15 := fun_mk (st := sFits) l15 c15 k15
  have b15 := F15.binds (ps := ["net", "table"]) fun _ _ _ _ _ _ => args2 fun _ _ => rfl
  have G15 : Fn K mg "fits" sFits ["net", "table"] f15 _ := ⟨F15, PySem.W.mg_of X G a15, b15⟩
  have F16 := fun_mk (st := sWaitOf) l16 c16 k16
  have b16 := F16.binds (ps := ["net", "table"]) fun _ _ _ _ _ _ => args2 fun _ _ => rfl
  have G16 : Fn K mg "wait_of" sWaitOf ["net", "table"] f16 _ := ⟨F16, PySem.W.mg_of X G a16, b16⟩
  have F17 := fun_mk (st := sMoved) l17 c17 k17
  have b17 := F17.binds (ps := ["net", "table", "number"]) fun _ _ _ _ _ _ => args3 fun _ _ _ => rfl
  have G17 : Fn K mg "moved_by" sMoved ["net", "table", "number"] f17 _ := ⟨F17, PySem.W.mg_of X G a17, b17⟩
  have F18 := fun_mk (st := sMirS) l18 c18 k18
  have b18 := F18.binds (ps := ["span"]) fun _ _ _ _ _ _ => args1 fun _ => rfl
  have G18 : Fn K mg "mirrored_span" sMirS ["span"] f18 _ := ⟨F18, PySem.W.mg_of X G a18, b18⟩
  have F19 := fun_mk (st := sMir) l19 c19 k19
  have b19 := F19.binds (ps := ["net"]) fun _ _ _ _ _ _ => args1 fun _ => rfl
  have G19 : Fn K mg "mirrored" sMir ["net"] f19 _ := ⟨F19, PySem.W.mg_of X G a19, b19⟩
  have F20 := fun_mk (st := sTabMir) l20 c20 k20
  have b20 := F20.binds (ps := ["net", "table"]) fun _ _ _ _ _ _ => args2 fun _ _ => rfl
  have G20 : Fn K mg "table_mirrored" sTabMir ["net", "table"] f20 _ := ⟨F20, PySem.W.mg_of X G a20, b20⟩
  have F21 := fun_mk (st := sStrS) l21 c21 k21
  have b21 := F21.binds (ps := ["span", "number"]) fun _ _ _ _ _ _ => args2 fun _ _ => rfl
  have G21 : Fn K mg "stretched_span" sStrS ["span", "number"] f21 _ := ⟨F21, PySem.W.mg_of X G a21, b21⟩
  have F22 := fun_mk (st := sStr) l22 c22 k22
  have b22 := F22.binds (ps := ["net", "number"]) fun _ _ _ _ _ _ => args2 fun _ _ => rfl
  have G22 : Fn K mg "stretched" sStr ["net", "number"] f22 _ := ⟨F22, PySem.W.mg_of X G a22, b22⟩
  have F23 := fun_mk (st := sTabStr) l23 c23 k23
  have b23 := F23.binds (ps := ["table", "number"]) fun _ _ _ _ _ _ => args2 fun _ _ => rfl
  have G23 : Fn K mg "table_stretched" sTabStr ["table", "number"] f23 _ := ⟨F23, PySem.W.mg_of X G a23, b23⟩
  have F24 := fun_mk (st := sNamed) l24 c24 k24
  have b24 := F24.binds (ps := ["span", "names"]) fun _ _ _ _ _ _ => args2 fun _ _ => rfl
  have G24 : Fn K mg "span_named" sNamed ["span", "names"] f24 _ := ⟨F24, PySem.W.mg_of X G a24, b24⟩
  have F25 := fun_mk (st := sIsOrder) l25 c25 k25
  have b25 := F25.binds (ps := ["net", "thing"]) fun _ _ _ _ _ _ => args2 fun _ _ => rfl
  have G25 : Fn K mg "is_order" sIsOrder ["net", "thing"] f25 _ := ⟨F25, PySem.W.mg_of X G a25, b25⟩
  have F26 := fun_mk (st := sCheckO) l26 c26 k26
  have b26 := F26.binds (ps := ["net", "order"]) fun _ _ _ _ _ _ => args2 fun _ _ => rfl
  have G26 : Fn K mg "check_order" sCheckO ["net", "order"] f26 _ := ⟨F26, PySem.W.mg_of X G a26, b26⟩
  have F27 := fun_mk (st := sNamedA) l27 c27 k27
  have b27 := F27.binds (ps := ["net", "order"]) fun _ _ _ _ _ _ => args2 fun _ _ => rfl
  have G27 : Fn K mg "named_anew" sNamedA ["net", "order"] f27 _ := ⟨F27, PySem.W.mg_of X G a27, b27⟩
  have F28 := fun_mk (st := sTabNam) l28 c28 k28
  have b28 := F28.binds (ps := ["net", "table", "order"]) fun _ _ _ _ _ _ => args3 fun _ _ _ => rfl
  have G28 : Fn K mg "table_named_anew" sTabNam ["net", "table", "order"] f28 _ := ⟨F28, PySem.W.mg_of X G a28, b28⟩
  have F29 := fun_mk (st := sSide) l29 c29 k29
  have b29 := F29.binds (ps := ["one", "other"]) fun _ _ _ _ _ _ => args2 fun _ _ => rfl
  have G29 : Fn K mg "side_by_side" sSide ["one", "other"] f29 _ := ⟨F29, PySem.W.mg_of X G a29, b29⟩
  have F30 := fun_mk (st := sNums) l30 c30 k30
  have b30 := F30.binds (ps := ["_law_script", "_law_most"]) fun _ _ _ _ _ _ => args2 fun _ _ => rfl
  have G30 : Fn K mg "_law_numbers" sNums ["_law_script", "_law_most"] f30 _ := ⟨F30, PySem.W.mg_of X G a30, b30⟩
  have F31 := fun_mk (st := sDrawD) l31 c31 k31
  have b31 := F31.binds (ps := ["_law_deck", "_law_most"]) fun _ _ _ _ _ _ => args2 fun _ _ => rfl
  have G31 : Fn K mg "_law_draw" sDrawD ["_law_deck", "_law_most"] f31 _ := ⟨F31, PySem.W.mg_of X G a31, b31⟩
  have F32 := fun_mk (st := sSpanD) l32 c32 k32
  have b32 := F32.binds (ps := ["_law_deck", "_law_beat", "_law_many", "_law_hidden", "_law_kept"]) fun _ _ _ _ _ _ => args5 fun _ _ _ _ _ => rfl
  have G32 : Fn K mg "_law_span" sSpanD ["_law_deck", "_law_beat", "_law_many", "_law_hidden", "_law_kept"] f32 _ := ⟨F32, PySem.W.mg_of X G a32, b32⟩
  have F33 := fun_mk (st := sNetD) l33 c33 k33
  have b33 := F33.binds (ps := ["_law_deck", "_law_most", "_law_beats", "_law_size", "_law_great"]) fun _ _ _ _ _ _ => args5 fun _ _ _ _ _ => rfl
  have G33 : Fn K mg "_law_net" sNetD ["_law_deck", "_law_most", "_law_beats", "_law_size", "_law_great"] f33 _ := ⟨F33, PySem.W.mg_of X G a33, b33⟩
  have F34 := fun_mk (st := sWaitsN) l34 c34 k34
  have b34 := F34.binds (ps := ["_law_net_here", "_law_table"]) fun _ _ _ _ _ _ => args2 fun _ _ => rfl
  have G34 : Fn K mg "_law_waits" sWaitsN ["_law_net_here", "_law_table"] f34 _ := ⟨F34, PySem.W.mg_of X G a34, b34⟩
  have F35 := fun_mk (st := sFitsN) l35 c35 k35
  have b35 := F35.binds (ps := ["_law_net_here", "_law_table"]) fun _ _ _ _ _ _ => args2 fun _ _ => rfl
  have G35 : Fn K mg "_law_fits" sFitsN ["_law_net_here", "_law_table"] f35 _ := ⟨F35, PySem.W.mg_of X G a35, b35⟩
  have F36 := fun_mk (st := sWaitN) l36 c36 k36
  have b36 := F36.binds (ps := ["_law_net_here", "_law_table"]) fun _ _ _ _ _ _ => args2 fun _ _ => rfl
  have G36 : Fn K mg "_law_wait" sWaitN ["_law_net_here", "_law_table"] f36 _ := ⟨F36, PySem.W.mg_of X G a36, b36⟩
  have F37 := fun_mk (st := sDrawnT) l37 c37 k37
  have b37 := F37.binds (ps := ["_law_deck", "_law_net_here"]) fun _ _ _ _ _ _ => args2 fun _ _ => rfl
  have G37 : Fn K mg "_law_drawn_table" sDrawnT ["_law_deck", "_law_net_here"] f37 _ := ⟨F37, PySem.W.mg_of X G a37, b37⟩
  have F38 := fun_mk (st := sOrderL) l38 c38 k38
  have b38 := F38.binds (ps := ["_law_deck", "_law_many"]) fun _ _ _ _ _ _ => args2 fun _ _ => rfl
  have G38 : Fn K mg "_law_order" sOrderL ["_law_deck", "_law_many"] f38 _ := ⟨F38, PySem.W.mg_of X G a38, b38⟩
  have F39 := fun_mk (st := sMovedL) l39 c39 k39
  have b39 := F39.binds (ps := ["_law_deck", "_law_net_here", "_law_tables"]) fun _ _ _ _ _ _ => args3 fun _ _ _ => rfl
  have G39 : Fn K mg "_law_moved" sMovedL ["_law_deck", "_law_net_here", "_law_tables"] f39 _ := ⟨F39, PySem.W.mg_of X G a39, b39⟩
  have F40 := fun_mk (st := sLaw) l40 c40 k40
  have m1 := PySem.W.mg_none_of X G z1
  have m2 := PySem.W.mg_none_of X G z2
  have m3 := PySem.W.mg_none_of X G z3
  have m4 := PySem.W.mg_none_of X G z4
  have m5 := PySem.W.mg_none_of X G z5
  have m6 := PySem.W.mg_none_of X G z6
  have m7 := PySem.W.mg_none_of X G z7
  have m8 := PySem.W.mg_none_of X G z8
  have m9 := PySem.W.mg_none_of X G z9
  have m10 := PySem.W.mg_none_of X G z10
  have m11 := PySem.W.mg_none_of X G z11
  have m12 := PySem.W.mg_none_of X G z12
  have m13 := PySem.W.mg_none_of X G z13
  have m14 := PySem.W.mg_none_of X G z14
  have i1 := PySem.W.mg_of X G y1
  have i2 := PySem.W.mg_of X G y2
  have i3 := PySem.W.mg_of X G y3
  refine ⟨PySem.W.fnOf "law" "law" (defArgs sLaw) (defBody sLaw) (defScope sLaw) .none kV40 dc40 pm40 an40 cd40 ct40, fun s v => .of_eq rfl, fun base _ _ => ?_⟩
  have T : Nm mg := ⟨m1, m2, m3, m4, m5, m6, m7⟩
  have T2 : Nt mg := ⟨m8, m9, m10, m11, m12, m13⟩
  have C : Cs mg := ⟨⟨_, i2⟩, ⟨_, i1⟩, ⟨_, i3⟩⟩
  have W : FnOk l.prog w K mg base CX0 3 f13 _ ["net", "table"] spWaits := ok_waits F13 T T2 G11 G12
  have B : FnOk l.prog w K mg base CX0 4 f14 _ ["net", "table"] spBroken := ok_broken F14 T T2 G13 W G8
  have IO : FnOk l.prog w K mg base CX0 2 f25 _ ["net", "thing"] spIsOrder := ok_isOrder F25 T T2 m14 G2
  have CO : FnOk l.prog w K mg base CX0 3 f26 _ ["net", "order"] spCheckO := ok_checkO F26 G25 IO
  have MV : FnOk l.prog w K mg base CX0 5 f39 _ ["_law_deck", "_law_net_here", "_law_tables"] spMovedL := ok_movedL F39 T G31 G19 (ok_mir F19 T G18) G20 (ok_tabMir F20 T G11) G38 (ok_orderL F38 T T2 G31) G27 (ok_namedA F27 T T2 G26 CO G24) G28 (ok_tabNam F28 T G26 CO) G22 (ok_str F22 T G21) G23 (ok_tabStr F23 T) G29 (ok_side F29 T T2 ⟨_, i1⟩ ⟨_, i2⟩ G24 G9)
  exact ok_law F40 T T2 G30 G33 (ok_netD F33 T T2 G31 G32) G37 (ok_drawnT F37 T T2 G31) G35 (ok_fitsN F35 T2 G34) G36 (ok_waitN F36 T2 G34) G39 MV G7 (ok_net F7 T C G1 G2 G3 G4 G5 G6) G10 (ok_table F10 T G3 G2) G15 (ok_fits F15 T G14 B) G17 (ok_moved F17 T G11) G31 G16 (ok_waitOf F16 T T2 G13 W)
theorem walk {l : PySem.W.OpenLaw} {q : Program} {loose : List Str} {XP : (Str → Option Value) → Heap → Prop} {YP : World → Heap → Prop} {d : DefRec} {K : Params → PySem.W.Frag} (hn : l.most = some 63) (hdf : d.params.defaults = [])
    (hY : ∀ (w : World) (h : Heap), YP w h → (K w.params).In h)
    (F : ∀ (w : World) (mg : Str → Option Value) (fa : Addr) (h : Heap), (K w.params).In h → h.Ns mainGlobals mg → mg d.name = some (.ref fa) →
      ∃ fd : FuncData, (∀ (s : Shared) (u : Value), BindsTo s fd ⟨[u], []⟩ [("_law_script", u)]) ∧ ∀ base : Heap, (K w.params).In base → base.Ns mainGlobals mg → FnOk l.prog w (K w.params) mg base CX0 6 fa fd ["_law_script"] (spLaw (K w.params))) :
    PySem.W.WalkO q loose XP YP l.row.toRowW d [] (fun f vs => PySem.call f vs) :=
  L2.walk_of (n := 63) (k := 6) (x := "_law_script") (CX := fun _ => CX0) (sp := fun w => spLaw (K w.params)) hn (by decide) hdf ⟨rfl, by decide, by decide⟩ hY F (fun _ _ a ns hl _ hS => ⟨a, ns, rfl, hS, hl, fun _ => rfl⟩) fun _ _ _ _ _ z => z
end HN
open PySem PySem.W PyProof.Rows
set_option maxRecDepth 100000 in
set_option maxHeartbeats 0 in
theorem PySem.Challenge.cw_hourtable_k75_whole_moves_one_behind_ano_holds : PySem.Challenge.rw_hourtable_k75_whole_moves_one_behind_ano.Holds := by
  w_on; o_law; k_head; (case hw => w_witness2)
  k_fill
  refine HN.walk (l := PySem.Challenge.rw_hourtable_k75_whole_moves_one_behind_ano) rfl rfl (fun w h Y => PySem.W.kIn_of Y) ?F
  case F =>
    intro w mg fa h KX G hmg
    refine' HN.all_mk KX G hmg ?a1 ?l1 ?c1 ?k1 ?a2 ?l2 ?c2 ?k2 ?a3 ?l3 ?c3 ?k3 ?a4 ?l4 ?c4 ?k4 ?a5 ?l5 ?c5 ?k5 ?a6 ?l6 ?c6 ?k6 ?a7 ?l7 ?c7 ?k7 ?a8 ?l8 ?c8 ?k8 ?a9 ?l9 ?c9 ?k9 ?a10 ?l10 ?c10 ?k10 ?a11 ?l11 ?c11 ?k11 ?a12 ?l12 ?c12 ?k12 ?a13 ?l13 ?c13 ?k13 ?a14 ?l14 ?c14 ?k14 ?a15 ?l15 ?c15 ?k15 ?a16 ?l16 ?c16 ?k16 ?a17 ?l17 ?c17 ?k17 ?a18 ?l18 ?c18 ?k18 ?a19 ?l19 ?c19 ?k19 ?a20 ?l20 ?c20 ?k20 ?a21 ?l21 ?c21 ?k21 ?a22 ?l22 ?c22 ?k22 ?a23 ?l23 ?c23 ?k23 ?a24 ?l24 ?c24 ?k24 ?a25 ?l25 ?c25 ?k25 ?a26 ?l26 ?c26 ?k26 ?a27 ?l27 ?c27 ?k27 ?a28 ?l28 ?c28 ?k28 ?a29 ?l29 ?c29 ?k29 ?a30 ?l30 ?c30 ?k30 ?a31 ?l31 ?c31 ?k31 ?a32 ?l32 ?c32 ?k32 ?a33 ?l33 ?c33 ?k33 ?a34 ?l34 ?c34 ?k34 ?a35 ?l35 ?c35 ?k35 ?a36 ?l36 ?c36 ?k36 ?a37 ?l37 ?c37 ?k37 ?a38 ?l38 ?c38 ?k38 ?a39 ?l39 ?c39 ?k39 ?a40 ?l40 ?c40 ?k40 ?y1 ?y2 ?y3 ?z1 ?z2 ?z3 ?z4 ?z5 ?z6 ?z7 ?z8 ?z9 ?z10 ?z11 ?z12 ?z13 ?z14
    (case a1 => k_is); (case l1 => k_is); (case c1 => k_is); (case k1 => k_is)
    (case a2 => k_is); (case l2 => k_is); (case c2 => k_is); (case k2 => k_is)
    (case a3 => k_is); (case l3 => k_is); (case c3 => k_is); (case k3 => k_is)
    (case a4 => k_is); (case l4 => k_is); (case c4 => k_is); (case k4 => k_is)
    (case a5 => k_is); (case l5 => k_is); (case c5 => k_is); (case k5 => k_is)
    (case a6 => k_is); (case l6 => k_is); (case c6 => k_is); (case k6 => k_is)
    (case a7 => k_is); (case l7 => k_is); (case c7 => k_is); (case k7 => k_is)
    (case a8 => k_is); (case l8 => k_is); (case c8 => k_is); (case k8 => k_is)
    (case a9 => k_is); (case l9 => k_is); (case c9 => k_is); (case k9 => k_is)
    (case a10 => k_is); (case l10 => k_is); (case c10 => k_is); (case k10 => k_is)
    (case a11 => k_is); (case l11 => k_is); (case c11 => k_is); (case k11 => k_is)
    (case a12 => k_is); (case l12 => k_is); (case c12 => k_is); (case k12 => k_is)
    (case a13 => k_is); (case l13 => k_is); (case c13 => k_is); (case k13 => k_is)
    (case a14 => k_is); (case l14 => k_is); (case c14 => k_is); (case k14 => k_is)
    (case a15 => k_is); (case l15 => k_is); (case c15 => k_is); (case k15 => k_is)
    (case a16 => k_is); (case l16 => k_is); (case c16 => k_is); (case k16 => k_is)
    (case a17 => k_is); (case l17 => k_is); (case c17 => k_is); (case k17 => k_is)
    (case a18 => k_is); (case l18 => k_is); (case c18 => k_is); (case k18 => k_is)
    (case a19 => k_is); (case l19 => k_is); (case c19 => k_is); (case k19 => k_is)
    (case a20 => k_is); (case l20 => k_is); (case c20 => k_is); (case k20 => k_is)
    (case a21 => k_is); (case l21 => k_is); (case c21 => k_is); (case k21 => k_is)
    (case a22 => k_is); (case l22 => k_is); (case c22 => k_is); (case k22 => k_is)
    (case a23 => k_is); (case l23 => k_is); (case c23 => k_is); (case k23 => k_is)
    (case a24 => k_is); (case l24 => k_is); (case c24 => k_is); (case k24 => k_is)
    (case a25 => k_is); (case l25 => k_is); (case c25 => k_is); (case k25 => k_is)
    (case a26 => k_is); (case l26 => k_is); (case c26 => k_is); (case k26 => k_is)
    (case a27 => k_is); (case l27 => k_is); (case c27 => k_is); (case k27 => k_is)
    (case a28 => k_is); (case l28 => k_is); (case c28 => k_is); (case k28 => k_is)
    (case a29 => k_is); (case l29 => k_is); (case c29 => k_is); (case k29 => k_is)
    (case a30 => k_is); (case l30 => k_is); (case c30 => k_is); (case k30 => k_is)
    (case a31 => k_is); (case l31 => k_is); (case c31 => k_is); (case k31 => k_is)
    (case a32 => k_is); (case l32 => k_is); (case c32 => k_is); (case k32 => k_is)
    (case a33 => k_is); (case l33 => k_is); (case c33 => k_is); (case k33 => k_is)
    (case a34 => k_is); (case l34 => k_is); (case c34 => k_is); (case k34 => k_is)
    (case a35 => k_is); (case l35 => k_is); (case c35 => k_is); (case k35 => k_is)
    (case a36 => k_is); (case l36 => k_is); (case c36 => k_is); (case k36 => k_is)
    (case a37 => k_is); (case l37 => k_is); (case c37 => k_is); (case k37 => k_is)
    (case a38 => k_is); (case l38 => k_is); (case c38 => k_is); (case k38 => k_is)
    (case a39 => k_is); (case l39 => k_is); (case c39 => k_is); (case k39 => k_is)
    (case a40 => k_is); (case l40 => k_is); (case c40 => k_is); (case k40 => k_is)
    (case y1 => k_is)
    (case y2 => k_is)
    (case y3 => k_is)
    (case z1 => k_is)
    (case z2 => k_is)
    (case z3 => k_is)
    (case z4 => k_is)
    (case z5 => k_is)
    (case z6 => k_is)
    (case z7 => k_is)
    (case z8 => k_is)
    (case z9 => k_is)
    (case z10 => k_is)
    (case z11 => k_is)
    (case z12 => k_is)
    (case z13 => k_is)
    (case z14 => k_is)
