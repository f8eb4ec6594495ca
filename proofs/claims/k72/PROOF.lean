import PyProof.Rows.All
import Wide.All
import OpenK.AllK
import Wide.FinOn
import Lean
import PyProof.EqAt
import PyProof.EqKinds
import PyProof.TupleCall
import PySem.Challenge.RW_hourtable_k72_named_anew
set_option Elab.async false
set_option linter.all false
set_option maxRecDepth 100000
set_option maxHeartbeats 4000000
/-! THE HAND LAYER, for ints, bools, texts, own classes, LISTS and tuples (index, slices, in, append, pop ..), calls, loops. Paste it whole ahead of your own text; what your proof does not reach may be deleted. -/
namespace L2
open PySem PySem.Spec PyProof.Rows

/-- a key: an int or a str -/
abbrev Key := Sum Int Str
def keyIs : Key → Value → Bool
  | .inl k, v => Value.isInt k v
  | .inr x, v => Value.isStrOf x v
def keyH (w : World) : Key → Int
  | .inl k => hashInt k
  | .inr x => hashStr w x
theorem keyIs_shape : ∀ {k : Key} {v : Value}, keyIs k v = true → (∃ i t, k = Sum.inl i ∧ v = Value.int i t) ∨ (∃ x t, k = Sum.inr x ∧ v = Value.str x t)
  | .inl i, v, h => by
    obtain ⟨t, e⟩ := Value.isInt_shape (k := i) (v := v) h
    exact .inl ⟨i, t, rfl, e⟩
  | .inr x, v, h => by
    obtain ⟨t, e⟩ := Value.isStrOf_shape (x := x) (v := v) h
    exact .inr ⟨x, t, rfl, e⟩
theorem key_ll (a b : Int) : decide ((Sum.inl a : Key) = Sum.inl b) = (a == b) := by
  by_cases e : a = b
  · subst e; simp
  · have h : ¬ (Sum.inl a : Key) = Sum.inl b := fun q => e (Sum.inl.inj q)
    rw [decide_eq_false h]
    exact (beq_eq_false_iff_ne.mpr e).symm
theorem key_rr (a b : Str) : decide ((Sum.inr a : Key) = Sum.inr b) = decide (a = b) := by
  by_cases e : a = b
  · subst e; simp
  · have h : ¬ (Sum.inr a : Key) = Sum.inr b := fun q => e (Sum.inr.inj q)
    rw [decide_eq_false h, decide_eq_false e]
theorem key_lr (a : Int) (b : Str) : decide ((Sum.inl a : Key) = Sum.inr b) = false := decide_eq_false (fun q => nomatch q)
theorem key_rl (a : Str) (b : Int) : decide ((Sum.inr a : Key) = Sum.inl b) = false := decide_eq_false (fun q => nomatch q)

def mixKind (prog : Program) (w : World) : PySem.KeyKind prog w Key where
  is := keyIs
  hash := keyH w
  inj := fun v a b ha hb => by
    rcases keyIs_shape ha with ⟨i, t, rfl, rfl⟩ | ⟨x, t, rfl, rfl⟩
    · rcases keyIs_shape hb with ⟨j, u, rfl, e⟩ | ⟨y, u, rfl, e⟩
      · injection e with e1 _; rw [e1]
      · exact nomatch e
    · rcases keyIs_shape hb with ⟨j, u, rfl, e⟩ | ⟨y, u, rfl, e⟩
      · exact nomatch e
      · injection e with e1 _; rw [e1]
  byValue := fun k v h => by
    rcases keyIs_shape h with ⟨i, t, rfl, rfl⟩ | ⟨x, t, rfl, rfl⟩ <;> rfl
  pyHash := fun hv h => by
    rcases keyIs_shape hv with ⟨i, t, rfl, rfl⟩ | ⟨x, t, rfl, rfl⟩
    · exact wpAny_pyHash_int h
    · exact wpAny_pyHash_str h
  eqBool := fun hu hv h => by
    rcases keyIs_shape hu with ⟨i, t, rfl, rfl⟩ | ⟨x, t, rfl, rfl⟩
    · rcases keyIs_shape hv with ⟨j, u, rfl, rfl⟩ | ⟨y, u, rfl, rfl⟩
      · rw [key_ll] at h; exact wpAny_eqBool_int h
      · rw [key_lr] at h; exact SeqAt.EqAt.int_str i t y u _ _ _ _ h
    · rcases keyIs_shape hv with ⟨j, u, rfl, rfl⟩ | ⟨y, u, rfl, rfl⟩
      · rw [key_rl] at h; exact SeqAt.EqAt.str_int x t j u _ _ _ _ h
      · rw [key_rr] at h; exact wpAny_eqBool_str h
  «strs» := fun k x t v h => by
    rcases keyIs_shape h with ⟨i, u, rfl, e⟩ | ⟨y, u, rfl, e⟩
    · exact nomatch e
    · injection e with e1 _
      subst e1
      cases v <;> rfl

end L2

namespace L2
open PySem PySem.Spec PyProof.Rows

/-- a value, without the heap -/
inductive V where
  | non | bl (b : Bool) | int (i : Int) | str (x : Str) | byt (b : Array UInt8) | flt (b : UInt64) | ref (a : Addr) | ty (n : String)
  deriving DecidableEq

def RelV : V → Value → Prop
  | .non, u => u = Value.none
  | .bl b, u => u = Value.bool b
  | .int i, u => ∃ t, u = Value.int i t
  | .str x, u => ∃ t, u = Value.str x t
  | .byt b, u => ∃ t, u = Value.bytes b t
  | .flt b, u => ∃ t, u = Value.float b t
  | .ref a, u => u = Value.ref a
  | .ty n, u => u = Value.type n

abbrev Vals : List V → List Value → Prop := Paired RelV
theorem Vals.length {xs : List V} {us : List Value} (r : Vals xs us) : xs.length = us.length := Paired.length r
theorem Vals.get : ∀ {xs : List V} {us : List Value} {i : Nat} {x : V}, Vals xs us → xs[i]? = some x → ∃ u, us[i]? = some u ∧ RelV x u
  | _, _, _, _, .nil, e => by simp at e
  | _, _, 0, _, .cons r _, e => by simp at e; subst e; exact ⟨_, rfl, r⟩
  | _, _, i + 1, x, .cons _ t, e => by
    obtain ⟨u, h1, h2⟩ := Vals.get (i := i) (x := x) t (by simpa using e)
    exact ⟨u, by simpa using h1, h2⟩
theorem Vals.set {x : V} {u : Value} (r : RelV x u) : ∀ {xs : List V} {us : List Value} (i : Nat), Vals xs us → Vals (xs.set i x) (us.set i u)
  | _, _, _, .nil => .nil
  | _, _, 0, .cons _ t => .cons r t
  | _, _, i + 1, .cons q t => .cons q (Vals.set r i t)
theorem Vals.append : ∀ {xs ys : List V} {us ws : List Value}, Vals xs us → Vals ys ws → Vals (xs ++ ys) (us ++ ws)
  | _, _, _, _, .nil, s => s
  | _, _, _, _, .cons r t, s => .cons r (Vals.append t s)
theorem Vals.take : ∀ {xs : List V} {us : List Value} (n : Nat), Vals xs us → Vals (xs.take n) (us.take n)
  | _, _, 0, _ => .nil
  | _, _, _ + 1, .nil => .nil
  | _, _, n + 1, .cons r t => .cons r (Vals.take n t)
theorem Vals.drop : ∀ {xs : List V} {us : List Value} (n : Nat), Vals xs us → Vals (xs.drop n) (us.drop n)
  | _, _, 0, r => r
  | _, _, _ + 1, .nil => .nil
  | _, _, n + 1, .cons _ t => Vals.drop n t
theorem Vals.none_of : ∀ {xs : List V} {us : List Value} {i : Nat}, Vals xs us → xs[i]? = none → us[i]? = none := fun {xs us i} r e => by
  have h1 := r.length
  have h2 : xs.length ≤ i := List.getElem?_eq_none_iff.mp e
  exact List.getElem?_eq_none_iff.mpr (by omega)

def RelO : Option V → Option Value → Prop
  | some v, some u => RelV v u
  | none, none => True
  | _, _ => False
def KV {κ : Type} : List (κ × V) → List (κ × Value) → Prop := Paired fun (p : κ × V) (q : κ × Value) => p.1 = q.1 ∧ RelV p.2 q.2

/-- a key of a dict (00_mix): an int or a text -/
def kV : Key → V
  | .inl i => .int i
  | .inr x => .str x

/-- what stands at a tracked address -/
inductive HO where
  /-- a list -/
  | lst (xs : List V)
  /-- a tuple (never changes) -/
  | tup (xs : List V)
  /-- a dict whose keys are ints and texts; one whose keys are tuples of ints and texts (the empty one is both) -/
  | dK (kvs : List (Key × V)) | dT (kvs : List (List Key × V))
  /-- a set of ints: its members, its size -/
  | set (S : Int → Bool) (n : Nat)
  /-- an instance of the class at C, its dict at dx, its attributes -/
  | ins (C dx : Addr) (fs : List (Str × V))
  /-- the dict of the instance at x -/
  | own (x : Addr)
  /-- the dict of an exception -/
  | xd (fs : List (Str × V))
  /-- a bound method, f of x -/
  | met (f x : Addr)
  /-- a range object lo, lo + 1, .. below hi -/
  | rng (lo hi : Int)
  /-- a thing that is known to the object (the script; a dict while a loop walks it): read, never written while it is so -/
  | frz (o : Obj) (u : HO)
  /-- a code object's table -/
  | tbl (ps : Array Value)
  /-- any other thing, by what is true of its one object (a def of one's own: SetO a S n := HO.ext fun h => ..) -/
  | ext (φ : Heap → Prop)

abbrev Hp := Addr → Option HO
def upd (H : Hp) (a : Addr) (o : HO) : Hp := fun b => if b = a then some o else H b
theorem upd_same {H : Hp} {a : Addr} {o : HO} : upd H a o a = some o := by unfold upd; rw [if_pos rfl]
theorem upd_ne {H : Hp} {a b : Addr} {o : HO} (h : b ≠ a) : upd H a o b = H b := by unfold upd; rw [if_neg h]
/-- two objects of different content stand apart -/
theorem ne_of {H : Hp} {a b : Addr} {o u : HO} (h : H a = some o) (h' : H b = some u) (d : o ≠ u) : a ≠ b := by
  intro e; subst e; rw [h] at h'; exact d (Option.some.inj h')
theorem ne_of_none {H : Hp} {a b : Addr} {o : HO} (h : H a = some o) (h' : H b = none) : a ≠ b := by
  intro e; subst e; rw [h] at h'; cases h'

/-- a tuple that has no names of its own -/
def IsTupN (h : Heap) (a : Addr) (items : Array Value) : Prop := ∃ o, h.get? a = some o ∧ o.cls = .type "tuple" ∧ o.dict = none ∧ ∃ n, o.data = .seq items n
theorem IsTupN.tup {h : Heap} {a : Addr} {items : Array Value} (p : IsTupN h a items) : IsTup h a items := let ⟨o, e, c, _, n, d⟩ := p; ⟨o, e, c, n, d⟩
theorem IsTupN.lt {h : Heap} {a : Addr} {items : Array Value} (p : IsTupN h a items) : a < h.objs.size := p.tup.lt
theorem IsTupN.new (h : Heap) (items : Array Value) : IsTupN (h.push { cls := .type "tuple", data := .seq items }) h.objs.size items := ⟨_, Heap.get?_push_size _ rfl, rfl, rfl, _, rfl⟩
section
variable (P : Program) (w : World)
def ObjOk (H : Hp) (h : Heap) (a : Addr) : HO → Prop
  | .lst xs => xs.length ≤ sizeLine ∧ ∃ (its : List Value) (n : Nat), Vals xs its ∧ h.get? a = some { cls := .type "list", data := .seq its.toArray n }
  | .tup xs => xs.length ≤ sizeLine ∧ ∃ its : List Value, Vals xs its ∧ IsTupN h a its.toArray
  | .dK kvs => kvs.length ≤ sizeLine ∧ (a == sysModules) = false ∧ ∃ vs, KV kvs vs ∧ h.DictOf (mixKind P w) a vs
  | .dT kvs => kvs.length ≤ sizeLine ∧ (a == sysModules) = false ∧ ∃ xs : List (List Key × Addr × Value),
      Paired (fun (p : List Key × V) (q : List Key × Addr × Value) => p.1 = q.1 ∧ H q.2.1 = some (.tup (p.1.map kV)) ∧ RelV p.2 q.2.2) kvs xs ∧
      ∃ o es ep, h.get? a = some o ∧ o.ExactDict ∧ o.data = .dict es ep ∧ es.toList = xs.map (entryOfKey (tupleKind (mixKind P w))) ∧ (xs.map (·.1)).Nodup
  | .set S n => h.SetOf (intKind P w) a S n
  | .ins C dx fs => H dx = some (.own a) ∧ fs.length ≤ 1000 ∧ dx ≠ a ∧ h.get? a = some (PySem.W.instObj C dx) ∧
      ∃ mA, h.Ns1 dx mA ∧ (∀ f, RelO (fs.lookup f) (mA f)) ∧ PySem.Within mA (fs.map (·.1))
  | .own _ => ∃ o, h.get? a = some o
  | .xd fs => ∃ mA, h.Ns1 a mA ∧ ∀ f, RelO (fs.lookup f) (mA f)
  | .rng lo hi => ∃ t u v, h.get? a = some { cls := .type "range", data := .fields #[.int lo t, .int hi u, .int 1 v] }
  | .frz o u => h.get? a = some o ∧ ObjOk H h a u
  | .tbl ps => h.get? a = some { cls := .none, data := .fields ps }
  | .met f x => h.get? a = some (PySem.W.methodObj (.ref f) (.ref x))
  | .ext φ => φ h ∧ (∃ o, h.get? a = some o) ∧ ∀ h1 h2 : Heap, φ h1 → (∀ o, h1.get? a = some o → h2.get? a = some o) → φ h2
/-- the abstract heap is held -/
def HOk (H : Hp) (h : Heap) : Prop := ∀ a o, H a = some o → ObjOk P w H h a o
end

section
variable {P : Program} {w : World} {H H' : Hp} {h h' : Heap} {a : Addr} {o : HO}
theorem ObjOk.lt (x : ObjOk P w H h a o) : a < h.objs.size := by
  cases o with
  | lst xs => obtain ⟨_, _, _, _, e⟩ := x; exact Heap.lt_size e
  | tup xs => obtain ⟨_, _, _, p⟩ := x; exact p.lt
  | dK kvs => obtain ⟨_, _, _, _, o, _, _, e, _⟩ := x; exact Heap.lt_size e
  | dT kvs => obtain ⟨_, _, _, _, o, _, _, e, _⟩ := x; exact Heap.lt_size e
  | set S n => obtain ⟨o, _, _, _, e, _⟩ := x; exact Heap.lt_size e
  | ins C dx fs => obtain ⟨_, _, _, e, _⟩ := x; exact Heap.lt_size e
  | own y => obtain ⟨_, e⟩ := x; exact Heap.lt_size e
  | xd fs => obtain ⟨_, ⟨_, _, _, e, _⟩, _⟩ := x; exact Heap.lt_size e
  | rng lo hi => obtain ⟨_, _, _, e⟩ := x; exact Heap.lt_size e
  | frz ob u => obtain ⟨e, _⟩ := x; exact Heap.lt_size e
  | tbl ps => exact Heap.lt_size (show h.get? a = some _ from x)
  | met f y => exact Heap.lt_size (show h.get? a = some _ from x)
  | ext φ => obtain ⟨_, ⟨_, e⟩, _⟩ := x; exact Heap.lt_size e
theorem Paired.mapP {α β : Type} {F G : α → β → Prop} : ∀ {l₁ : List α} {l₂ : List β}, Paired F l₁ l₂ → (∀ a b, F a b → G a b) → Paired G l₁ l₂
  | _, _, .nil, _ => .nil
  | _, _, .cons r t, f => .cons (f _ _ r) (Paired.mapP t f)
/-- what an object's description leans on: its own object, its own dict, the tuples -/
theorem ObjOk.stay (x : ObjOk P w H h a o) (k : ∀ b u, (b = a ∨ H b = some (.own a)) → h.get? b = some u → h'.get? b = some u)
    (ho : ∀ b, H b = some (.own a) → H' b = some (.own a)) (ht : ∀ b xs, H b = some (.tup xs) → H' b = some (.tup xs)) : ObjOk P w H' h' a o := by
  induction o with
  | lst xs => obtain ⟨z, its, n, r, e⟩ := x; exact ⟨z, its, n, r, k _ _ (.inl rfl) e⟩
  | tup xs => obtain ⟨z, its, r, ob, e, c⟩ := x; exact ⟨z, its, r, ob, k _ _ (.inl rfl) e, c⟩
  | dK kvs => obtain ⟨z, y, vs, r, ob, es, ep, e, c⟩ := x; exact ⟨z, y, vs, r, ob, es, ep, k _ _ (.inl rfl) e, c⟩
  | dT kvs =>
    obtain ⟨z, y, xs, r, ob, es, ep, e, c⟩ := x
    exact ⟨z, y, xs, Paired.mapP r fun p q z => ⟨z.1, ht _ _ z.2.1, z.2.2⟩, ob, es, ep, k _ _ (.inl rfl) e, c⟩
  | set S n => obtain ⟨ob, es, ep, t, e, c⟩ := x; exact ⟨ob, es, ep, t, k _ _ (.inl rfl) e, c⟩
  | ins C dx fs =>
    obtain ⟨d, z, ne, e, mA, ⟨od, es, ep, e2, c⟩, r⟩ := x
    exact ⟨ho _ d, z, ne, k _ _ (.inl rfl) e, mA, ⟨od, es, ep, k _ _ (.inr d) e2, c⟩, r⟩
  | own y => obtain ⟨ob, e⟩ := x; exact ⟨ob, k _ _ (.inl rfl) e⟩
  | xd fs => obtain ⟨mA, ⟨od, es, ep, e, c⟩, r⟩ := x; exact ⟨mA, ⟨od, es, ep, k _ _ (.inl rfl) e, c⟩, r⟩
  | rng lo hi => obtain ⟨t, u, v, e⟩ := x; exact ⟨t, u, v, k _ _ (.inl rfl) e⟩
  | frz ob u ih => obtain ⟨e, q⟩ := x; exact ⟨k _ _ (.inl rfl) e, ih q⟩
  | tbl ps =>
    have e : h.get? a = some { cls := .none, data := .fields ps } := x
    show h'.get? a = some { cls := .none, data := .fields ps }
    exact k a _ (.inl rfl) e
  | met f y =>
    have e : h.get? a = some (PySem.W.methodObj (.ref f) (.ref y)) := x
    show h'.get? a = some (PySem.W.methodObj (.ref f) (.ref y))
    exact k a _ (.inl rfl) e
  | ext φ => obtain ⟨p, ⟨o, e⟩, st⟩ := x; exact ⟨st _ _ p fun o q => k _ _ (.inl rfl) q, ⟨o, k _ _ (.inl rfl) e⟩, st⟩
theorem HOk.lt (x : HOk P w H h) (e : H a = some o) : a < h.objs.size := (x a o e).lt
theorem HOk.fresh (x : HOk P w H h) (e : h.objs.size ≤ a) : H a = none := by
  cases q : H a with
  | none => rfl
  | some u => exact absurd (Nat.lt_of_lt_of_le (x.lt q) e) (Nat.lt_irrefl _)
/-- every object of the heap is kept -/
theorem HOk.kept (x : HOk P w H h) (k : ∀ b u, h.get? b = some u → h'.get? b = some u) : HOk P w H h' := fun a o e =>
  (x a o e).stay (fun b u _ q => k b u q) (fun _ q => q) fun _ _ q => q
/-- a new object is laid and tracked -/
theorem HOk.laid (x : HOk P w H h) (k : ∀ b u, h.get? b = some u → h'.get? b = some u) (hp : h.objs.size ≤ a) (new : ObjOk P w (upd H a o) h' a o) : HOk P w (upd H a o) h' := fun b u e => by
  have hn := x.fresh hp
  by_cases hb : b = a
  · subst hb; rw [upd_same] at e; cases e; exact new
  · rw [upd_ne hb] at e
    exact (x b u e).stay (fun c v _ q => k c v q) (fun c q => by rw [upd_ne (ne_of_none q hn)]; exact q) fun c xs q => by rw [upd_ne (ne_of_none q hn)]; exact q
end

/-- what may be read as u: it is u, or a known u -/
def Rd (H : Hp) (a : Addr) (u : HO) : Prop := H a = some u ∨ ∃ o, H a = some (.frz o u)
theorem Rd.of {H : Hp} {a : Addr} {u : HO} (h : H a = some u) : Rd H a u := .inl h
theorem Rd.ok {P : Program} {w : World} {H : Hp} {h : Heap} {a : Addr} {u : HO} (r : Rd H a u) (x : HOk P w H h) : ObjOk P w H h a u := by
  rcases r with r | ⟨o, r⟩
  · exact x a u r
  · obtain ⟨_, q⟩ := x a _ r
    exact q
/-- what may be written -/
def Mut : Option HO → Prop
  | some (.lst _) => True
  | some (.dK _) => True
  | some (.dT _) => True
  | some (.set _ _) => True
  | some (.ins _ _ _) => True
  | some (.ext _) => True
  | _ => False
section
variable {P : Program} {w : World} {H : Hp} {h h' : Heap} {x e : Addr} {o' : HO}
/-- the object at e is changed: x itself, or the dict of the instance x -/
theorem HOk.write (ok : HOk P w H h) (mu : Mut (H x)) (he : e = x ∨ H e = some (.own x)) (k : ∀ b u, b ≠ e → h.get? b = some u → h'.get? b = some u) (heo : ∃ u, h'.get? e = some u)
    (new : ObjOk P w (upd H x o') h' x o') : HOk P w (upd H x o') h' := fun b u q => by
  have nown : ∀ c y, H c = some (.own y) → c ≠ x := fun c y r z => by subst z; rw [r] at mu; exact mu
  have ntup : ∀ c xs, H c = some (.tup xs) → c ≠ x := fun c xs r z => by subst z; rw [r] at mu; exact mu
  by_cases hb : b = x
  · subst hb; rw [upd_same] at q; cases q; exact new
  · rw [upd_ne hb] at q
    by_cases hbe : b = e
    · have q' : H b = some (.own x) := by
        rcases he with z | z
        · exact absurd (hbe.trans z) hb
        · rw [hbe]; exact z
      rw [q] at q'; cases q'
      obtain ⟨v, hv⟩ := heo
      exact ⟨v, by rw [hbe]; exact hv⟩
    · refine (ok b u q).stay (fun c v hc r => k c v ?_ r) (fun c r => by rw [upd_ne (nown c b r)]; exact r) fun c xs r => by rw [upd_ne (ntup c xs r)]; exact r
      rcases hc with rfl | hc
      · exact hbe
      · rintro rfl
        rcases he with z | z
        · exact nown c b hc z
        · rw [hc] at z; cases z; exact hb rfl
end

/-! ### kept unless tracked; of the frames at fs (the callers') the slots may change (an exception that passes writes there); of the records at ex (iterators) nothing is said -/
structure Un (fs ex : List Addr) (H H' : Hp) (h h' : Heap) : Prop where
  keep : ∀ b o, h.get? b = some o → H b = none → b ∉ fs → b ∉ ex → h'.get? b = some o
  slot : ∀ b o, h.get? b = some o → H b = none → b ∈ fs → b ∉ ex → ∃ sl, h'.get? b = some { o with slots := sl }
  free : ∀ b o, h.get? b = some o → H b = none → b ∉ ex → H' b = none
  there : ∀ b o, h.get? b = some o → b ∉ ex → ∃ o', h'.get? b = some o'
  tups : ∀ b xs, H b = some (.tup xs) → H' b = some (.tup xs)
  frzs : ∀ b o u, H b = some (.frz o u) → H' b = some (.frz o u)
  tbls : ∀ b ps, H b = some (.tbl ps) → ∃ more, H' b = some (.tbl (ps ++ more))
section
variable {fs fs' ex ex' : List Addr} {H H1 H2 : Hp} {h h1 h2 h' : Heap} {a x e : Addr} {o : HO}
theorem Un.any (u : Un fs ex H H1 h h1) {b : Addr} {ob : Obj} (q : h.get? b = some ob) (n : H b = none) (hx : b ∉ ex) : ∃ sl, h1.get? b = some { ob with slots := sl } := by
  by_cases hb : b ∈ fs
  · exact u.slot b ob q n hb hx
  · exact ⟨ob.slots, u.keep b ob q n hb hx⟩
theorem Un.trans (a : Un fs ex H H1 h h1) (b : Un fs ex H1 H2 h1 h2) : Un fs ex H H2 h h2 where
  keep := fun c ob q n hc hx => b.keep c ob (a.keep c ob q n hc hx) (a.free c ob q n hx) hc hx
  slot := fun c ob q n hc hx => by
    obtain ⟨sl, e1⟩ := a.slot c ob q n hc hx
    obtain ⟨sl', e2⟩ := b.slot c _ e1 (a.free c ob q n hx) hc hx
    exact ⟨sl', e2⟩
  free := fun c ob q n hx => by
    obtain ⟨o', e1⟩ := a.there c ob q hx
    exact b.free c o' e1 (a.free c ob q n hx) hx
  there := fun c ob q hx => by
    obtain ⟨o', e1⟩ := a.there c ob q hx
    exact b.there c o' e1 hx
  tups := fun c xs q => b.tups c xs (a.tups c xs q)
  frzs := fun c ob xs q => b.frzs c ob xs (a.frzs c ob xs q)
  tbls := fun c ps q => by
    obtain ⟨m1, e1⟩ := a.tbls c ps q
    obtain ⟨m2, e2⟩ := b.tbls c _ e1
    exact ⟨m1 ++ m2, by rw [e2, Array.append_assoc]⟩
theorem Un.kept (k : ∀ b u, h.get? b = some u → h'.get? b = some u) : Un fs ex H H h h' :=
  ⟨fun b ob q _ _ _ => k b ob q, fun b ob q _ _ _ => ⟨ob.slots, k b ob q⟩, fun _ _ _ n _ => n, fun b ob q _ => ⟨ob, k b ob q⟩, fun _ _ q => q, fun _ _ _ q => q, fun _ ps q => ⟨#[], by rw [q]; simp⟩⟩
theorem Un.refl : Un fs ex H H h h := Un.kept fun _ _ q => q
theorem Un.laid (k : ∀ b u, h.get? b = some u → h'.get? b = some u) (hp : h.objs.size ≤ a) (hn : H a = none) : Un fs ex H (upd H a o) h h' where
  keep := fun b u q _ _ _ => k b u q
  slot := fun b u q _ _ _ => ⟨u.slots, k b u q⟩
  free := fun b u q n _ => by rw [upd_ne (Nat.ne_of_lt (Nat.lt_of_lt_of_le (Heap.lt_size q) hp))]; exact n
  there := fun b u q _ => ⟨u, k b u q⟩
  tups := fun b xs q => by rw [upd_ne (ne_of_none q hn)]; exact q
  frzs := fun b u xs q => by rw [upd_ne (ne_of_none q hn)]; exact q
  tbls := fun b ps q => ⟨#[], by rw [upd_ne (ne_of_none q hn), q]; simp⟩
theorem Un.write (mu : Mut (H x)) (he : e = x ∨ H e = some (.own x)) (k : ∀ b u, b ≠ e → h.get? b = some u → h'.get? b = some u) (heo : ∃ u, h'.get? e = some u) : Un fs ex H (upd H x o) h h' := by
  have hx : ∀ b, H b = none → b ≠ x := fun b n z => by subst z; rw [n] at mu; exact mu
  have hb : ∀ b, H b = none → b ≠ e := fun b n z => by
    subst z
    rcases he with r | r
    · exact hx b n r
    · rw [n] at r; cases r
  have hm : ∀ b u, H b = some u → ¬ Mut (some u) → b ≠ x := fun b u q nm z => by subst z; rw [q] at mu; exact nm mu
  refine ⟨fun b u q n _ _ => k b u (hb b n) q, fun b u q n _ _ => ⟨u.slots, k b u (hb b n) q⟩, fun b u q n _ => by rw [upd_ne (hx b n)]; exact n, fun b u q _ => ?_,
    fun b xs q => by rw [upd_ne (hm b _ q fun z => z)]; exact q, fun b u xs q => by rw [upd_ne (hm b _ q fun z => z)]; exact q, fun b ps q => ⟨#[], by rw [upd_ne (hm b _ q fun z => z), q]; simp⟩⟩
  by_cases hbe : b = e
  · subst hbe; exact heo
  · exact ⟨u, k b u hbe q⟩
theorem Un.mono (u : Un fs ex H H1 h h1) (hs : ∀ b ∈ fs, b ∈ fs') (hx : ∀ b ∈ ex, b ∈ ex') : Un fs' ex' H H1 h h1 :=
  ⟨fun b ob q n hb he => u.keep b ob q n (fun z => hb (hs b z)) fun z => he (hx b z), fun _ _ q n _ he => u.any q n fun z => he (hx _ z), fun b ob q n he => u.free b ob q n fun z => he (hx b z), fun b ob q he => u.there b ob q fun z => he (hx b z), u.tups, u.frzs, u.tbls⟩
end

/-! ### the heap without what is tracked -/
def trk (h : Heap) (H : Hp) : List Addr := (List.range h.objs.size).filter fun a => (H a).isSome
def hidT (h : Heap) (H : Hp) : Heap := PySem.W.hideAll h (trk h H)
theorem hidT_size (h : Heap) (H : Hp) : (hidT h H).objs.size = h.objs.size := PySem.W.hideAll_size _ _
theorem hidT_get {h : Heap} {H : Hp} {b : Addr} {o : Obj} (e : h.get? b = some o) (n : H b = none) : (hidT h H).get? b = some o :=
  PySem.W.hideAll_get _ e fun hm => by
    have q : (H b).isSome = true := (List.mem_filter.mp hm).2
    rw [n] at q; simp at q
theorem of_hidT {h : Heap} {H : Hp} {b : Addr} {o : Obj} (e : (hidT h H).get? b = some o) : h.get? b = some o ∧ H b = none := by
  have e' : h.get? b = some o := PySem.W.of_hideAll (trk h H) e
  refine ⟨e', ?_⟩
  cases q : H b with
  | none => rfl
  | some x =>
    have hm : b ∈ trk h H := List.mem_filter.mpr ⟨List.mem_range.mpr (Heap.lt_size e'), by simp [q]⟩
    have z : (hidT h H).get? b = none := PySem.W.hideAll_none (trk h H) hm
    rw [z] at e; cases e

/-! ### OpenK's ledger, filled with every new object but one -/
def allNews (g h : Heap) (L : Addr) : List (Addr × Obj) := (List.range h.objs.size).filterMap fun a => if a = L ∨ (g.get? a).isSome = true then none else (h.get? a).map fun o => (a, o)
def rest (g h : Heap) (L d : Addr) : List (Addr × Obj) := (allNews g h L).filter fun p => decide (p.1 ≠ d)
end L2

namespace L2
open PySem PySem.Spec PyProof.Rows

/-- the module's facts, over the base: the heap at the law's entry without what is tracked there -/
structure Mod (K : PySem.W.Frag) (mg : Str → Option Value) (base : Heap) : Prop where
  kin : K.In base
  glob : base.Ns mainGlobals mg
  blt : ∃ mb, base.Ns builtinsNs mb ∧ ∀ x : Str, x ≠ "__name__" → mb x = bootBuiltins x
  nolimit : base.NoLimit

/-- the context: a def's body (or a comprehension's block) running. base: fixed through the whole law; s₀, H₀: the entry; outer: the frames whose slots others may change (a def's callers); stack: all frames that run;
   ex: iterators that were made ahead of the entry and are walked here (a comprehension's); fn: the names whose cells were made at the entry (a def: all; a comprehension's block: its own); calm: not within an except suite; pn: pins that every state bears; xe: what is wanted of an exception that leaves the code -/
structure Cx where
  prog : Program
  w : World
  K : PySem.W.Frag
  mg : Str → Option Value
  base : Heap
  A : Around
  N : List Str
  s₀ : Shared
  H₀ : Hp
  env : Env
  outer : List Env
  stack : List Env
  ex : List Addr
  fn : Str → Bool
  calm : Bool
  pn : List (Addr × Obj)
  xe : Value → Shared → Prop
/-- the callers' frames -/
def frs (l : List Env) : List Addr := l.filterMap (·.frame)
abbrev Cx.fs (X : Cx) : List Addr := frs X.outer

def Vis (sc : Scope) (x : Str) : Prop := sc.names.lookup x = some .local ∨ sc.names.lookup x = some .cell ∨ sc.names.lookup x = some .free
def Loc (sc : Scope) (x : Str) : Prop := sc.names.lookup x = some .local ∨ sc.names.lookup x = some .cell
def Look (env : Env) (h : Heap) (m : Str → Option Value) (x : Str) (u : Value) : Prop :=
  (env.kindOf x = some .local ∧ m x = some u) ∨ ((env.kindOf x = some .cell ∨ env.kindOf x = some .free) ∧ ∃ c, env.cells.lookup x = some c ∧ h.IsCell c (some u))

structure Cx.Ok (X : Cx) : Prop where
  mod : Mod X.K X.mg X.base
  kind : X.env.scope.kind = .function
  glob : X.env.globals = mainGlobals
  blt : X.env.builtins = builtinsNs
  above : X.s₀.heap.objs.size ≤ X.env.locals
  inj : ∀ x y c, X.env.cells.lookup x = some c → X.env.cells.lookup y = some c → x = y
  has : ∀ x, (X.env.kindOf x = some .cell ∨ X.env.kindOf x = some .free) → ∃ c, X.env.cells.lookup x = some c
  cab : ∀ x c, X.fn x = true → X.env.cells.lookup x = some c → X.s₀.heap.objs.size ≤ c
  hd : X.calm = true → X.A.handled = none
  frames : X.A.frames = some X.stack
  stk : X.stack = X.outer ∨ (X.stack = X.env :: X.outer ∧ X.env.frame = some X.env.locals)
  exf : ∀ b ∈ X.ex, b ≠ X.env.locals ∧ ∀ x c, X.env.cells.lookup x = some c → c ≠ b
  bs : ∀ b o, X.base.get? b = some o → X.s₀.heap.get? b = some o ∧ X.H₀ b = none
  bsz : X.base.objs.size ≤ X.s₀.heap.objs.size
  noex : ∀ b o, X.base.get? b = some o → b ∉ X.ex
  exfs : ∀ b ∈ X.ex, b ∉ X.fs
  funs : X.s₀.heap.FunFrames X.base X.outer
  frf : ∀ b ∈ X.fs, X.H₀ b = none

structure Inv (X : Cx) (pins : List (Addr × Obj)) (σ : List (Option V)) (H : Hp) (s : Shared) : Prop where
  ok : X.Ok
  os : s.os = X.s₀.os
  bare : AllBare s.gens
  base : Un X.fs X.ex X.H₀ H X.s₀.heap s.heap
  loc : ∃ m, s.heap.Ns X.env.locals m ∧ ∀ (i : Nat) (x : Str) (v : V), X.N[i]? = some x → σ[i]? = some (some v) → Vis X.env.scope x → ∃ u, RelV v u ∧ Look X.env s.heap m x u
  cell : ∀ x c, X.env.cells.lookup x = some c → ∃ v, s.heap.IsCell c v
  free : H X.env.locals = none
  freeC : ∀ x c, X.env.cells.lookup x = some c → H c = none
  pin : ∀ p ∈ X.pn ++ pins, s.heap.get? p.1 = some p.2 ∧ H p.1 = none ∧ p.1 ≠ X.env.locals ∧ p.1 ∉ X.fs ∧ ∀ v, p.2.data ≠ .cell v
  hok : HOk X.prog X.w H s.heap
  len : σ.length = X.N.length

section
variable {X : Cx} {pins : List (Addr × Obj)} {σ : List (Option V)} {H H' : Hp} {s : Shared} {h' : Heap}

theorem Cx.Ok.nofr (ok : X.Ok) {b : Addr} {o : Obj} (e : X.base.get? b = some o) : b ∉ X.fs := fun hb => by
  have := (ok.funs.mem hb).1
  rw [e] at this; cases this
theorem Inv.bs (I : Inv X pins σ H s) : ∀ b o, X.base.get? b = some o → s.heap.get? b = some o ∧ H b = none := fun b o e =>
  ⟨I.base.keep b o (I.ok.bs b o e).1 (I.ok.bs b o e).2 (I.ok.nofr e) (I.ok.noex b o e), I.base.free b o (I.ok.bs b o e).1 (I.ok.bs b o e).2 (I.ok.noex b o e)⟩
theorem Inv.bk (I : Inv X pins σ H s) : ∀ b o, X.base.get? b = some o → s.heap.get? b = some o := fun b o e => (I.bs b o e).1
theorem Inv.mod (I : Inv X pins σ H s) : Mod X.K X.mg X.base := I.ok.mod
theorem Inv.kIn (I : Inv X pins σ H s) : X.K.In s.heap := I.ok.mod.kin.keeps I.bk
theorem Inv.nolimit (I : Inv X pins σ H s) : s.heap.NoLimit := I.ok.mod.nolimit.keeps I.bk
/-- the frame over the base: for OpenK's rules (K.In X.base is I.mod.kin) -/
theorem Inv.fr (I : Inv X pins σ H s) : ∃ m, Fr X.base X.env.locals s.heap m :=
  let ⟨m, hn, _⟩ := I.loc
  ⟨m, hn, I.bk, Nat.le_trans I.ok.bsz I.ok.above⟩
theorem Inv.lt (I : Inv X pins σ H s) : X.env.locals < s.heap.objs.size := let ⟨_, hn, _⟩ := I.loc; hn.lt
theorem Inv.sz (I : Inv X pins σ H s) : X.s₀.heap.objs.size ≤ s.heap.objs.size := Nat.le_trans I.ok.above (Nat.le_of_lt I.lt)
theorem Inv.nofs (I : Inv X pins σ H s) {a : Addr} (h : s.heap.objs.size ≤ a) : a ∉ X.fs := fun hb => by
  obtain ⟨_, o, ho, _⟩ := I.ok.funs.mem hb
  exact absurd (Nat.lt_of_lt_of_le (Heap.lt_size ho) (Nat.le_trans I.sz h)) (Nat.lt_irrefl _)
theorem Inv.cne (I : Inv X pins σ H s) : ∀ x c, X.env.cells.lookup x = some c → c ≠ X.env.locals := fun x c e z => by
  obtain ⟨v, o, ho, hd⟩ := I.cell x c e
  obtain ⟨m, ⟨o', es, ep, ho', hd', _⟩, _⟩ := I.loc
  rw [z, ho'] at ho; cases ho; rw [hd'] at hd; cases hd
theorem Inv.funs (I : Inv X pins σ H s) : s.heap.FunFrames X.base X.outer := by
  have all : ∀ (l : List Env), (∀ b ∈ frs l, b ∈ X.fs) → X.s₀.heap.FunFrames X.base l → s.heap.FunFrames X.base l := by
    intro l
    induction l with
    | nil => intro _ _; trivial
    | cons env r ih =>
      intro hs hl
      obtain ⟨hk, ⟨L, o, hf, hn, ho, hd⟩, hr⟩ := hl
      have hL : L ∈ X.fs := hs L (by unfold frs; rw [List.filterMap_cons, hf]; exact List.mem_cons_self)
      obtain ⟨sl, e⟩ := I.base.slot L o ho (I.ok.frf L hL) hL fun z => I.ok.exfs L z hL
      exact ⟨hk, ⟨L, _, hf, hn, e, hd⟩, ih (fun b hb => hs b (by unfold frs; rw [List.filterMap_cons, hf]; exact List.mem_cons_of_mem _ hb)) hr⟩
  exact all X.outer (fun _ hb => hb) I.ok.funs

/-- the frames that run, for a call -/
theorem Inv.stack (I : Inv X pins σ H s) : s.heap.FunFrames X.base X.stack := by
  rcases I.ok.stk with e | ⟨e, hf⟩
  · rw [e]; exact I.funs
  · rw [e]
    obtain ⟨m, hn, _⟩ := I.loc
    refine .cons (by rw [I.ok.kind]; decide) hf hn ?_ I.funs
    exact Heap.get?_none_of_le (Nat.le_trans I.ok.bsz I.ok.above)
theorem Inv.stkSub (I : Inv X pins σ H s) : ∀ b ∈ frs X.stack, b ∈ X.env.locals :: X.fs := fun b hb => by
  rcases I.ok.stk with e | ⟨e, hf⟩
  · rw [e] at hb; exact List.mem_cons_of_mem _ hb
  · rw [e] at hb
    unfold frs at hb
    rw [List.filterMap_cons, hf] at hb
    exact hb
theorem Inv.stkFree (I : Inv X pins σ H s) : ∀ b ∈ frs X.stack, H b = none := fun b hb => by
  rcases List.mem_cons.mp (I.stkSub b hb) with e | hb
  · rw [e]; exact I.free
  · obtain ⟨_, o, ho, _⟩ := I.ok.funs.mem hb
    exact I.base.free b o ho (I.ok.frf b hb) fun z => I.ok.exfs b z hb

/-- THE STEP: the untracked objects but the frame and the records at ch are kept (the callers' frames up to slots), the frame's map is kept, the new abstract heap is held -/
theorem Inv.step {g' : Array GenState} {t' : Nat} {d' : Drawn} {ch : List Addr} (I : Inv X pins σ H s)
    (hch : ∀ b ∈ ch, (b ∈ X.ex ∨ X.s₀.heap.objs.size ≤ b) ∧ b ≠ X.env.locals ∧ (∀ x c, X.env.cells.lookup x = some c → c ≠ b) ∧ ∀ p ∈ X.pn ++ pins, p.1 ≠ b)
    (keep : ∀ b o, b ≠ X.env.locals → b ∉ X.fs → b ∉ ch → s.heap.get? b = some o → H b = none → h'.get? b = some o)
    (slot : ∀ b o, b ≠ X.env.locals → b ∈ X.fs → b ∉ ch → s.heap.get? b = some o → H b = none → ∃ sl, h'.get? b = some { o with slots := sl }) (free : ∀ b o, b ∉ ch → s.heap.get? b = some o → H b = none → H' b = none)
    (there : ∀ b o, b ∉ ch → s.heap.get? b = some o → ∃ o', h'.get? b = some o')
    (tups : ∀ b xs, H b = some (.tup xs) → H' b = some (.tup xs)) (frzs : ∀ b o u, H b = some (.frz o u) → H' b = some (.frz o u)) (tbls : ∀ b ps, H b = some (.tbl ps) → ∃ more, H' b = some (.tbl (ps ++ more)))
    (ns : ∀ m, s.heap.Ns X.env.locals m → h'.Ns X.env.locals m) (hok : HOk X.prog X.w H' h') (hg : AllBare g') :
    Inv X pins σ H' { s with heap := h', gens := g', drawn := d', toks := t' } := by
  have neL : ∀ b o, X.s₀.heap.get? b = some o → b ≠ X.env.locals := fun b o e => Nat.ne_of_lt (Nat.lt_of_lt_of_le (Heap.lt_size e) I.ok.above)
  have neC : ∀ b o, X.s₀.heap.get? b = some o → b ∉ X.ex → b ∉ ch := fun b o e hx hb => by
    rcases (hch b hb).1 with z | z
    · exact hx z
    · exact absurd (Nat.lt_of_lt_of_le (Heap.lt_size e) z) (Nat.lt_irrefl _)
  have cellK : ∀ x c, X.env.cells.lookup x = some c → ∀ v, s.heap.IsCell c v → h'.IsCell c v := fun x c e v ⟨o, ho, hd⟩ => by
    have nch : c ∉ ch := fun z => (hch c z).2.2.1 x c e rfl
    by_cases hc : c ∈ X.fs
    · obtain ⟨sl, q⟩ := slot c o (I.cne x c e) hc nch ho (I.freeC x c e)
      exact ⟨_, q, hd⟩
    · exact ⟨o, keep c o (I.cne x c e) hc nch ho (I.freeC x c e), hd⟩
  refine ⟨I.ok, I.os, hg, ⟨fun b o e n hb hx => ?_, fun b o e n hb hx => ?_, fun b o e n hx => ?_, fun b o e hx => ?_, fun b xs e => tups b xs (I.base.tups b xs e), fun b o xs e => frzs b o xs (I.base.frzs b o xs e), fun b ps e => ?_⟩, ?_, fun x c e => ?_, ?_, fun x c e => ?_, fun p hp => ?_, hok, I.len⟩
  · exact keep b o (neL b o e) hb (neC b o e hx) (I.base.keep b o e n hb hx) (I.base.free b o e n hx)
  · obtain ⟨sl, e1⟩ := I.base.slot b o e n hb hx
    obtain ⟨sl', e2⟩ := slot b _ (neL b o e) hb (neC b o e hx) e1 (I.base.free b o e n hx)
    exact ⟨sl', e2⟩
  · obtain ⟨o', e1⟩ := I.base.there b o e hx
    exact free b o' (neC b o e hx) e1 (I.base.free b o e n hx)
  · obtain ⟨o', e1⟩ := I.base.there b o e hx
    exact there b o' (neC b o e hx) e1
  · obtain ⟨m1, e1⟩ := I.base.tbls b ps e
    obtain ⟨m2, e2⟩ := tbls b _ e1
    exact ⟨m1 ++ m2, by rw [e2, Array.append_assoc]⟩
  · obtain ⟨m, hn, hl⟩ := I.loc
    refine ⟨m, ns m hn, fun i x v e1 e2 e3 => ?_⟩
    obtain ⟨u, r, l⟩ := hl i x v e1 e2 e3
    refine ⟨u, r, ?_⟩
    rcases l with l | ⟨k, c, e, z⟩
    · exact .inl l
    · exact .inr ⟨k, c, e, cellK x c e _ z⟩
  · obtain ⟨v, z⟩ := I.cell x c e
    exact ⟨v, cellK x c e v z⟩
  · obtain ⟨m, ⟨o, _, _, ho, _⟩, _⟩ := I.loc
    exact free _ o (fun z => (hch _ z).2.1 rfl) ho I.free
  · obtain ⟨v, o, ho, hd⟩ := I.cell x c e
    exact free c o (fun z => (hch c z).2.2.1 x c e rfl) ho (I.freeC x c e)
  · obtain ⟨e, n, ne, nf, d⟩ := I.pin p hp
    have nch : p.1 ∉ ch := fun z => (hch p.1 z).2.2.2 p hp rfl
    exact ⟨keep p.1 p.2 ne nf nch e n, free p.1 p.2 nch e n, ne, nf, d⟩
/-- .. where the frame's own object is kept too -/
theorem Inv.un {t' : Nat} (I : Inv X pins σ H s) (u : Un X.fs [] H H' s.heap h') (hok : HOk X.prog X.w H' h') : Inv X pins σ H' { s with heap := h', toks := t' } := by
  obtain ⟨m, ⟨o, es, ep, ho, r⟩, _⟩ := id I.loc
  obtain ⟨sl, hL⟩ := u.any ho I.free (by simp)
  exact I.step (g' := s.gens) (d' := s.drawn) (ch := []) (fun _ z => nomatch z) (fun b o _ hb _ e n => u.keep b o e n hb (by simp)) (fun b o _ hb _ e n => u.slot b o e n hb (by simp)) (fun b o _ e n => u.free b o e n (by simp)) (fun b o _ e => u.there b o e (by simp)) u.tups u.frzs u.tbls (fun m' hm => by
    obtain ⟨o', es', ep', ho', r'⟩ := hm
    rw [ho] at ho'; cases ho'
    exact ⟨_, es', ep', hL, r'⟩) hok I.bare
/-- behind a call (or a comprehension's block): the slots of this frame may have changed too, the records at ch may have turned -/
theorem Inv.call {g' : Array GenState} {t' : Nat} {d' : Drawn} {ch : List Addr} (I : Inv X pins σ H s) (u : Un (frs X.stack) ch H H' s.heap h') (hok : HOk X.prog X.w H' h') (hg : AllBare g')
    (hch : ∀ b ∈ ch, (b ∈ X.ex ∨ X.s₀.heap.objs.size ≤ b) ∧ b ≠ X.env.locals ∧ (∀ x c, X.env.cells.lookup x = some c → c ≠ b) ∧ ∀ p ∈ X.pn ++ pins, p.1 ≠ b) :
    Inv X pins σ H' { s with heap := h', gens := g', drawn := d', toks := t' } := by
  obtain ⟨m, ⟨o, es, ep, ho, r⟩, _⟩ := id I.loc
  obtain ⟨sl, hL⟩ := u.any ho I.free fun z => (hch _ z).2.1 rfl
  exact I.step (ch := ch) hch (fun b o hL hb hc e n => u.keep b o e n (fun z => (List.mem_cons.mp (I.stkSub b z)).elim hL hb) hc) (fun b o _ _ hc e n => u.any e n hc) (fun b o hc e n => u.free b o e n hc) (fun b o hc e => u.there b o e hc) u.tups u.frzs u.tbls (fun m' hm => by
    obtain ⟨o', es', ep', ho', r'⟩ := hm
    rw [ho] at ho'; cases ho'
    exact ⟨_, es', ep', hL, r'⟩) hok hg
/-- an untracked record of ours (an iterator) has turned -/
theorem Inv.turned {t' : Nat} {it : Addr} (I : Inv X pins σ H s) (k : ∀ b o, b ≠ it → s.heap.get? b = some o → h'.get? b = some o) (hn : H it = none) (hL : it ≠ X.env.locals)
    (h1 : it ∈ X.ex ∨ X.s₀.heap.objs.size ≤ it) (h2 : ∀ x c, X.env.cells.lookup x = some c → c ≠ it) (h3 : ∀ p ∈ X.pn ++ pins, p.1 ≠ it) : Inv X pins σ H { s with heap := h', toks := t' } := by
  have nit : ∀ b u, H b = some u → b ≠ it := fun b u e z => by rw [z, hn] at e; cases e
  refine I.step (g' := s.gens) (d' := s.drawn) (ch := [it]) (fun b hb => ?_) (fun b o _ _ hc e _ => k b o (fun z => hc (by simp [z])) e) (fun b o _ _ hc e _ => ⟨o.slots, k b o (fun z => hc (by simp [z])) e⟩) (fun _ _ _ _ n => n)
    (fun b o hc e => ⟨o, k b o (fun z => hc (by simp [z])) e⟩) (fun _ _ e => e) (fun _ _ _ e => e) (fun b ps e => ⟨#[], by rw [e]; simp⟩) (fun m hm => ?_) (fun b u e => ?_) I.bare
  · have e : b = it := by simpa using hb
    subst e
    exact ⟨h1, hL, h2, h3⟩
  · obtain ⟨o, es, ep, ho, r⟩ := hm
    exact ⟨o, es, ep, k _ o (Ne.symm hL) ho, r⟩
  · refine (I.hok b u e).stay (fun c v hc q => k c v ?_ q) (fun _ q => q) fun _ _ q => q
    rcases hc with z | z
    · rw [z]; exact nit b u e
    · exact nit c _ z
theorem Inv.tok (I : Inv X pins σ H s) (t : Nat) : Inv X pins σ H { s with toks := t } := I.un (h' := s.heap) (t' := t) Un.refl I.hok
/-- all objects kept -/
theorem Inv.kept {t' : Nat} (I : Inv X pins σ H s) (k : ∀ b u, s.heap.get? b = some u → h'.get? b = some u) : Inv X pins σ H { s with heap := h', toks := t' } := I.un (Un.kept k) (I.hok.kept k)
/-- a new object laid and tracked -/
theorem Inv.laid {a : Addr} {o : HO} {t' : Nat} (I : Inv X pins σ H s) (k : ∀ b u, s.heap.get? b = some u → h'.get? b = some u) (hp : s.heap.objs.size ≤ a) (new : ObjOk X.prog X.w (upd H a o) h' a o) :
    Inv X pins σ (upd H a o) { s with heap := h', toks := t' } := I.un (Un.laid k hp (I.hok.fresh hp)) (I.hok.laid k hp new)
/-- an object written -/
theorem Inv.write {x e : Addr} {o : HO} {t' : Nat} (I : Inv X pins σ H s) (mu : Mut (H x)) (he : e = x ∨ H e = some (.own x)) (k : ∀ b u, b ≠ e → s.heap.get? b = some u → h'.get? b = some u) (heo : ∃ u, h'.get? e = some u)
    (new : ObjOk X.prog X.w (upd H x o) h' x o) : Inv X pins σ (upd H x o) { s with heap := h', toks := t' } := I.un (Un.write mu he k heo) (I.hok.write mu he k heo new)
theorem Inv.pins_of {pins' : List (Addr × Obj)} (I : Inv X pins σ H s) (h : ∀ p ∈ pins', s.heap.get? p.1 = some p.2 ∧ H p.1 = none ∧ p.1 ≠ X.env.locals ∧ p.1 ∉ X.fs ∧ ∀ v, p.2.data ≠ .cell v) : Inv X pins' σ H s :=
  ⟨I.ok, I.os, I.bare, I.base, I.loc, I.cell, I.free, I.freeC, fun p hp => (List.mem_append.mp hp).elim (fun z => I.pin p (List.mem_append_left _ z)) (h p), I.hok, I.len⟩

theorem nodup_ix {N : List Str} (hN : N.Nodup) {i j : Nat} {x : Str} (a : N[i]? = some x) (b : N[j]? = some x) : i = j := by
  obtain ⟨h1, e1⟩ := List.getElem?_eq_some_iff.mp a
  obtain ⟨h2, e2⟩ := List.getElem?_eq_some_iff.mp b
  exact (List.getElem_inj hN).mp (e1.trans e2.symm)

/-- a name is stored; what changed -/
theorem store_ok2 {M : Model} {A : Around} {E : Value → Shared → Prop} {i : Nat} {x : Str} {v : V} {u : Value} {Q : Unit → Shared → Prop} (I : Inv X pins σ H s) (hN : X.N.Nodup) (hi : X.N[i]? = some x) (hx : Loc X.env.scope x) (r : RelV v u)
    (h : ∀ s', Inv X pins (σ.set i (some v)) H s' → (∃ a, Heap.SameBut a s.heap s'.heap ∧ (a = X.env.locals ∨ X.env.cells.lookup x = some a)) → Q () s') (hf : X.fn x = true ∨ X.env.scope.names.lookup x = some .local := by first | exact .inl rfl | exact .inr rfl | assumption) : wpAny M A (storeName X.env x u) Q E s := by
  obtain ⟨m, hn, hl⟩ := id I.loc
  have hcls : (X.env.scope.kind == .class || (X.env.scope.kind == .module && X.env.locals != X.env.globals)) = false := by rw [I.ok.kind]; rfl
  have hiσ : i < σ.length := by rw [I.len]; exact (List.getElem?_eq_some_iff.mp hi).1
  have cne := I.cne
  have tracked : ∀ {a : Addr} {h' : Heap}, (∃ o, s.heap.get? a = some o ∧ H a = none) → Heap.SameBut a s.heap h' → HOk X.prog X.w H h' := fun {a h'} ha hs b ob e => by
    obtain ⟨_, _, hfree⟩ := ha
    refine (I.hok b ob e).stay (fun c w' hc q => (hs.2 c ?_).trans q) (fun _ q => q) fun _ _ q => q
    rintro rfl
    rcases hc with rfl | hc
    · rw [hfree] at e; cases e
    · rw [hfree] at hc; cases hc
  rcases hx with hk | hk
  · refine wpAny_storeName_local hk hn (fun h' hn' hs => ?_) hcls
    obtain ⟨oL, _, _, hoL, _⟩ := id hn
    refine h _ ⟨I.ok, I.os, I.bare, ⟨fun b o e n hb hx => ?_, fun b o e n hb hx => ?_, I.base.free, fun b o e hx => ?_, I.base.tups, I.base.frzs, I.base.tbls⟩, ⟨_, hn', fun j y v' e1 e2 e3 => ?_⟩, fun y c e => ?_, I.free, I.freeC, fun p hp => ?_, tracked ⟨oL, hoL, I.free⟩ hs, by simpa using I.len⟩ ⟨_, hs, .inl rfl⟩
    · exact (hs.2 b (Nat.ne_of_lt (Nat.lt_of_lt_of_le (Heap.lt_size e) I.ok.above))).trans (I.base.keep b o e n hb hx)
    · obtain ⟨sl, e1⟩ := I.base.slot b o e n hb hx
      exact ⟨sl, (hs.2 b (Nat.ne_of_lt (Nat.lt_of_lt_of_le (Heap.lt_size e) I.ok.above))).trans e1⟩
    · obtain ⟨o', e1⟩ := I.base.there b o e hx
      exact ⟨o', (hs.2 b (Nat.ne_of_lt (Nat.lt_of_lt_of_le (Heap.lt_size e) I.ok.above))).trans e1⟩
    · by_cases hj : j = i
      · subst hj
        rw [hi] at e1; cases e1
        rw [List.getElem?_set_self hiσ] at e2
        cases e2
        exact ⟨u, r, .inl ⟨hk, by simp⟩⟩
      · rw [List.getElem?_set_ne (Ne.symm hj)] at e2
        obtain ⟨u', r', q⟩ := hl j y v' e1 e2 e3
        refine ⟨u', r', ?_⟩
        rcases q with ⟨k, e⟩ | ⟨k, c, e, z⟩
        · refine .inl ⟨k, ?_⟩
          have : y ≠ x := fun e => hj (nodup_ix hN e1 (e ▸ hi))
          simp [this, e]
        · exact .inr ⟨k, c, e, z.sameBut hs (cne y c e)⟩
    · obtain ⟨w', z⟩ := I.cell y c e
      exact ⟨w', z.sameBut hs (cne y c e)⟩
    · obtain ⟨e, n, ne, nf, d⟩ := I.pin p hp
      exact ⟨(hs.2 p.1 ne).trans e, n, ne, nf, d⟩
  · have hfn : X.fn x = true := by
      rcases hf with z | z
      · exact z
      · rw [z] at hk; cases hk
    obtain ⟨c, hc⟩ := I.ok.has x (.inl hk)
    obtain ⟨w', z⟩ := I.cell x c hc
    refine wpAny_storeName_cell I.ok.kind hk hc z (fun h' hc' hs => ?_)
    obtain ⟨oc, hoc, hocd⟩ := id z
    refine h { s with heap := h' } ⟨I.ok, I.os, I.bare, ⟨fun b o e n hb hx => ?_, fun b o e n hb hx => ?_, I.base.free, fun b o e hx => ?_, I.base.tups, I.base.frzs, I.base.tbls⟩, ⟨m, hn.sameBut hs (Ne.symm (cne x c hc)), fun j y v' e1 e2 e3 => ?_⟩, fun y c' e => ?_, I.free, I.freeC, fun p hp => ?_, tracked ⟨oc, hoc, I.freeC x c hc⟩ hs, by simpa using I.len⟩ ⟨c, hs, .inr hc⟩
    · exact (hs.2 b (Nat.ne_of_lt (Nat.lt_of_lt_of_le (Heap.lt_size e) (I.ok.cab x c hfn hc)))).trans (I.base.keep b o e n hb hx)
    · obtain ⟨sl, e1⟩ := I.base.slot b o e n hb hx
      exact ⟨sl, (hs.2 b (Nat.ne_of_lt (Nat.lt_of_lt_of_le (Heap.lt_size e) (I.ok.cab x c hfn hc)))).trans e1⟩
    · obtain ⟨o', e1⟩ := I.base.there b o e hx
      exact ⟨o', (hs.2 b (Nat.ne_of_lt (Nat.lt_of_lt_of_le (Heap.lt_size e) (I.ok.cab x c hfn hc)))).trans e1⟩
    · by_cases hj : j = i
      · subst hj
        rw [hi] at e1; cases e1
        rw [List.getElem?_set_self hiσ] at e2
        cases e2
        exact ⟨u, r, .inr ⟨.inl hk, c, hc, hc'⟩⟩
      · rw [List.getElem?_set_ne (Ne.symm hj)] at e2
        obtain ⟨u', r', q⟩ := hl j y v' e1 e2 e3
        refine ⟨u', r', ?_⟩
        rcases q with q | ⟨k, c', e, z'⟩
        · exact .inl q
        · refine .inr ⟨k, c', e, z'.sameBut hs ?_⟩
          rintro rfl
          exact hj (nodup_ix hN e1 (I.ok.inj _ _ _ e hc ▸ hi))
    · by_cases hcc : c' = c
      · subst hcc; exact ⟨_, hc'⟩
      · obtain ⟨w2, z2⟩ := I.cell y c' e
        exact ⟨w2, z2.sameBut hs hcc⟩
    · obtain ⟨e, n, ne, nf, d⟩ := I.pin p hp
      refine ⟨(hs.2 p.1 ?_).trans e, n, ne, nf, d⟩
      intro q
      rw [q, hoc] at e
      have q' : oc = p.2 := Option.some.inj e
      exact d w' (by rw [← q']; exact hocd)
theorem store_ok {M : Model} {A : Around} {E : Value → Shared → Prop} {i : Nat} {x : Str} {v : V} {u : Value} {Q : Unit → Shared → Prop} (I : Inv X pins σ H s) (hN : X.N.Nodup) (hi : X.N[i]? = some x) (hx : Loc X.env.scope x) (r : RelV v u)
    (h : ∀ s', Inv X pins (σ.set i (some v)) H s' → Q () s') (hf : X.fn x = true ∨ X.env.scope.names.lookup x = some .local := by first | exact .inl rfl | exact .inr rfl | assumption) : wpAny M A (storeName X.env x u) Q E s :=
  store_ok2 I hN hi hx r (fun s' I' _ => h s' I') hf
/-- behind a call or a block, the state as it is -/
theorem Inv.call' {s' : Shared} {ch : List Addr} (I : Inv X pins σ H s) (ho : s'.os = s.os) (u : Un (frs X.stack) ch H H' s.heap s'.heap) (hok : HOk X.prog X.w H' s'.heap) (hg : AllBare s'.gens)
    (hch : ∀ b ∈ ch, (b ∈ X.ex ∨ X.s₀.heap.objs.size ≤ b) ∧ b ≠ X.env.locals ∧ (∀ x c, X.env.cells.lookup x = some c → c ≠ b) ∧ ∀ p ∈ X.pn ++ pins, p.1 ≠ b) : Inv X pins σ H' s' := by
  obtain ⟨h', g', d', t', o'⟩ := s'
  have e : o' = s.os := ho
  subst e
  exact I.call (g' := g') (t' := t') (d' := d') u hok hg hch
end

/-! ### the judgements -/
/-- an exception: its class, its own dict's address (where it has one), the abstract heap behind it -/
abbrev XK := Value → Option Addr → Hp → Prop
abbrev St := List (Option V)
abbrev VK := V → Hp → Prop
/-- an expression's reading; a test's; an argument list's -/
abbrev TE := St → Hp → VK → Prop
abbrev TT := St → Hp → (Bool → Hp → Prop) → Prop
abbrev TA := St → Hp → (List V → Hp → Prop) → Prop
/-- what is wanted behind a statement -/
structure Ends where
  nx : St → Hp → Prop
  rt : VK
  bk : St → Hp → Prop := fun _ _ => False
  ct : St → Hp → Prop := fun _ _ => False
abbrev TS := Ends → St → Hp → Prop

def EP (X : Cx) (pins : List (Addr × Obj)) (σ : St) (Q : VK) (u : Value) (s' : Shared) : Prop := ∃ v H', Inv X pins σ H' s' ∧ RelV v u ∧ Q v H'
def TP (X : Cx) (pins : List (Addr × Obj)) (σ : St) (Q : Bool → Hp → Prop) (b : Bool) (s' : Shared) : Prop := ∃ H', Inv X pins σ H' s' ∧ Q b H'
def AP (X : Cx) (pins : List (Addr × Obj)) (σ : St) (Q : List V → Hp → Prop) (us : List Value) (s' : Shared) : Prop := ∃ vs H', Inv X pins σ H' s' ∧ Vals vs us ∧ Q vs H'
def SP (X : Cx) (pins : List (Addr × Obj)) (D : Ends) (f : Flow) (s' : Shared) : Prop :=
  match f with
  | .next => ∃ σ' H', Inv X pins σ' H' s' ∧ D.nx σ' H'
  | .brk => ∃ σ' H', Inv X pins σ' H' s' ∧ D.bk σ' H'
  | .cont => ∃ σ' H', Inv X pins σ' H' s' ∧ D.ct σ' H'
  | .ret u => ∃ v σ' H', Inv X pins σ' H' s' ∧ RelV v u ∧ D.rt v H'

def PE (X : Cx) (e : Expr) (t : TE) : Prop :=
  ∀ (pins : List (Addr × Obj)) (s : Shared) (σ : St) (H : Hp) (Q : VK), Inv X pins σ H s → t σ H Q → wpAny (model X.prog X.w) X.A (eval e X.env) (EP X pins σ Q) X.xe s
def PT (X : Cx) (e : Expr) (t : TT) : Prop :=
  ∀ (pins : List (Addr × Obj)) (s : Shared) (σ : St) (H : Hp) (Q : Bool → Hp → Prop), Inv X pins σ H s → t σ H Q → wpAny (model X.prog X.w) X.A (isTrue e X.env (eval e X.env)) (TP X pins σ Q) X.xe s
/-- a test whatever its 'whole' is (and, or) -/
def PW (X : Cx) (e : Expr) (t : TT) : Prop :=
  ∀ (whole : Sem Value) (pins : List (Addr × Obj)) (s : Shared) (σ : St) (H : Hp) (Q : Bool → Hp → Prop), Inv X pins σ H s → t σ H Q → wpAny (model X.prog X.w) X.A (isTrue e X.env whole) (TP X pins σ Q) X.xe s
theorem PW.pt {X : Cx} {e : Expr} {t : TT} (h : PW X e t) : PT X e t := h _
/-- an argument list (no star), from the left -/
def PA (X : Cx) (es : List Expr) (t : TA) : Prop :=
  ∀ (pos : Pos) (pins : List (Addr × Obj)) (s : Shared) (σ : St) (H : Hp) (Q : List V → Hp → Prop), Inv X pins σ H s → t σ H Q → wpAny (model X.prog X.w) X.A (spliced (backTo pos (starEach es X.env))) (AP X pins σ Q) X.xe s
def PS (X : Cx) (st : Stmt) (t : TS) : Prop :=
  ∀ (pins : List (Addr × Obj)) (s : Shared) (σ : St) (H : Hp) (D : Ends), Inv X pins σ H s → t D σ H → wpAny (model X.prog X.w) X.A (exec st X.env) (SP X pins D) X.xe s
def PSs (X : Cx) (st : List Stmt) (t : TS) : Prop :=
  ∀ (pins : List (Addr × Obj)) (s : Shared) (σ : St) (H : Hp) (D : Ends), Inv X pins σ H s → t D σ H → wpAny (model X.prog X.w) X.A (execs st X.env) (SP X pins D) X.xe s
/-- weaken the end -/
theorem thn {α : Type} {t : Sem α} {Q Q' : α → Shared → Prop} {M : Model} {A : Around} {E : Value → Shared → Prop} {s : Shared} (h : wpAny M A t Q E s) (hQ : ∀ a s, Q a s → Q' a s) : wpAny M A t Q' E s := wpAny_mono h hQ fun _ _ x => x
end L2

namespace L2
open PySem PySem.Spec PyProof.Rows
section
variable {X : Cx}

/-! ### names and constants -/
def tVar (i : Nat) : TE := fun σ H Q => ∃ v, σ[i]? = some (some v) ∧ Q v H
def tC (v : V) : TE := fun _ H Q => Q v H
theorem pe_var {i : Nat} {x : Str} {pos : Pos} (hN : X.N[i]? = some x) (hv : Vis X.env.scope x) (hd : (x == ("__debug__" : Str)) = false := by decide) (hcd : (x == ("__classdict__" : Str)) = false := by decide) : PE X (.Name x pos) (tVar i) := by
  intro pins s σ H Q I h
  obtain ⟨v, e, h⟩ := h
  obtain ⟨m, hn, hl⟩ := I.loc
  obtain ⟨u, r, l⟩ := hl i x v hN e hv
  have fin : EP X pins σ Q u s := ⟨v, H, I, r, h⟩
  rcases l with ⟨hk, hm⟩ | ⟨hk, c, hc, hcell⟩
  · exact wpAny_Name (wpAny_loadName_local I.ok.kind hk hn hm fin) hd
  · rcases hk with hk | hk
    · exact wpAny_Name (wpAny_loadName_cell I.ok.kind hk hc hcell fin) hd
    · exact wpAny_Name (wpAny_loadName_free I.ok.kind hk hc hcell fin hcd) hd
theorem pe_int {i j pos} : PE X (.Constant (.int i) j pos) (tC (.int i)) := fun _ _ _ H _ I h => wpAny_Constant_int ⟨.int i, H, I.tok _, ⟨_, rfl⟩, h⟩
theorem pe_bl {b j pos} : PE X (.Constant (.bool b) j pos) (tC (.bl b)) := fun _ _ _ H _ I h => Constant_bool ⟨.bl b, H, I, rfl, h⟩
/-- a global name of the def -/
def Gl (X : Cx) (x : Str) : Prop := X.env.kindOf x = some .globalImplicit
theorem ld_glob {E : Value → Shared → Prop} {pins : List (Addr × Obj)} {s : Shared} {σ : St} {H : Hp} {x : Str} {u : Value} {pos : Pos} {Q : Value → Shared → Prop} (I : Inv X pins σ H s) (hg : Gl X x) (hm : X.mg x = some u) (h : Q u s)
    (hd : (x == ("__debug__" : Str)) = false := by decide) : wpAny (model X.prog X.w) X.A (eval (.Name x pos) X.env) Q E s :=
  Calls.Name_function_global I.ok.kind hg (Calls.loadGlobal_global (by rw [I.ok.glob]; exact I.mod.glob.keeps I.bk) hm h) hd
theorem ld_blt {E : Value → Shared → Prop} {pins : List (Addr × Obj)} {s : Shared} {σ : St} {H : Hp} {x : Str} {u : Value} {pos : Pos} {Q : Value → Shared → Prop} (I : Inv X pins σ H s) (hg : Gl X x) (hm : X.mg x = none) (hv : bootBuiltins x = some u) (h : Q u s)
    (hn : x ≠ "__name__" := by decide) (hd : (x == ("__debug__" : Str)) = false := by decide) : wpAny (model X.prog X.w) X.A (eval (.Name x pos) X.env) Q E s := by
  obtain ⟨mb, h1, h2⟩ := I.mod.blt
  exact Calls.Name_function_global I.ok.kind hg (Calls.loadGlobal_builtin (by rw [I.ok.glob]; exact I.mod.glob.keeps I.bk) hm (by rw [I.ok.blt]; exact h1.keeps I.bk) ((h2 x hn).trans hv) h) hd
theorem pe_bltn {x : Str} {v : V} {u : Value} {pos : Pos} (hg : Gl X x) (hm : X.mg x = none) (hv : bootBuiltins x = some u) (r : RelV v u) (hn : x ≠ "__name__" := by decide) (hd : (x == ("__debug__" : Str)) = false := by decide) : PE X (.Name x pos) (tC v) :=
  fun _ _ _ H _ I h => ld_blt I hg hm hv ⟨v, H, I, r, h⟩ hn hd

/-! ### arithmetic -/
variable {a b : Expr} {ta tb : TE} {pos : Pos}
/-! ### comparisons -/
/-- a comparison as a value, as a test -/
def tB (t : TE) : TT := fun σ H Q => t σ H fun x H1 => ∃ c, x = .bl c ∧ Q c H1
/-- an expression whose value is a bool, as a test -/
theorem pt_val {e : Expr} {t : TE} (h : PE X e t) (he : ∀ whole, isTrue e X.env whole = (do let v ← whole; standAt e.pos; holding [v] (truthy v)) := by intro _; rfl) : PT X e (tB t) := by
  intro pins s σ H Q I hw
  refine isTrue_plain (thn (h pins s σ H _ I hw) fun v s1 ⟨x, H1, I1, r1, q1⟩ => ?_) (he _)
  obtain ⟨d, rfl, q⟩ := q1
  cases r1
  exact wpAny_truthy_bool ⟨H1, I1, q⟩

/-! ### and, or, not -/
variable {tA tB' : TT} {rest : List Expr}
def tAnd (t u : TT) : TT := fun σ H Q => t σ H fun c H1 => if c = true then u σ H1 Q else Q false H1
def tOr (t u : TT) : TT := fun σ H Q => t σ H fun c H1 => if c = true then Q true H1 else u σ H1 Q
def tNot (t : TT) : TT := fun σ H Q => t σ H fun c H1 => Q (!c) H1
theorem pw_and1 (ha : PT X a tA) : PW X (.BoolOp .And [a] pos) tA := by
  intro wh pins s σ H Q I h
  refine isTrue_and (thn (ha pins s σ H Q I h) fun c s1 e => ?_)
  cases c with
  | true => exact isTrue_and_nil e
  | false => exact e
theorem pw_or1 (ha : PT X a tA) : PW X (.BoolOp .Or [a] pos) tA := by
  intro wh pins s σ H Q I h
  refine isTrue_or (thn (ha pins s σ H Q I h) fun c s1 e => ?_)
  cases c with
  | false => exact isTrue_or_nil e
  | true => exact e
theorem pw_and (ha : PT X a tA) (hb : PW X (.BoolOp .And (b :: rest) pos) tB') : PW X (.BoolOp .And (a :: b :: rest) pos) (tAnd tA tB') := by
  intro wh pins s σ H Q I h
  refine isTrue_and (thn (ha pins s σ H _ I h) fun c s1 ⟨H1, I1, q1⟩ => ?_)
  cases c with
  | true => exact hb wh pins s1 σ H1 Q I1 q1
  | false => exact ⟨H1, I1, q1⟩
theorem pw_or (ha : PT X a tA) (hb : PW X (.BoolOp .Or (b :: rest) pos) tB') : PW X (.BoolOp .Or (a :: b :: rest) pos) (tOr tA tB') := by
  intro wh pins s σ H Q I h
  refine isTrue_or (thn (ha pins s σ H _ I h) fun c s1 ⟨H1, I1, q1⟩ => ?_)
  cases c with
  | true => exact ⟨H1, I1, q1⟩
  | false => exact hb wh pins s1 σ H1 Q I1 q1
theorem pt_not (ha : PT X a tA) : PT X (.UnaryOp .Not a pos) (tNot tA) := by
  intro pins s σ H Q I h
  exact isTrue_not (ha pins s σ H (fun c H1 => Q (!c) H1) I h)
/-- .. as values (bools) -/
def tAndV (ta tb : TE) : TE := fun σ H Q => ta σ H fun x H1 => ∃ c, x = .bl c ∧ if c = true then tb σ H1 Q else Q (.bl false) H1
def tNotV (ta : TE) : TE := fun σ H Q => ta σ H fun x H1 => ∃ c, x = .bl c ∧ Q (.bl (!c)) H1
theorem pe_one {op} {t : TE} (h : PE X a t) : PE X (.BoolOp op [a] pos) t := fun pins s σ H Q I hw => BoolOp_one (h pins s σ H Q I hw)
theorem pe_and (ha : PE X a ta) (hb : PE X (.BoolOp .And (b :: rest) pos) tb) : PE X (.BoolOp .And (a :: b :: rest) pos) (tAndV ta tb) := by
  intro pins s σ H Q I h
  refine BoolOp_and (thn (ha pins s σ H _ I h) fun v s1 ⟨x, H1, I1, r1, q1⟩ => ?_)
  obtain ⟨c, rfl, q1⟩ := q1
  cases r1
  refine wpAny_truthy_bool ?_
  cases c with
  | true => exact hb pins s1 σ H1 Q I1 q1
  | false => exact ⟨.bl false, H1, I1, rfl, q1⟩
theorem pe_not (ha : PE X a ta) : PE X (.UnaryOp .Not a pos) (tNotV ta) := by
  intro pins s σ H Q I h
  refine UnaryOp_ (thn (ha pins s σ H _ I h) fun v s1 ⟨x, H1, I1, r1, q1⟩ => ?_)
  obtain ⟨c, rfl, q1⟩ := q1
  cases r1
  exact not_of (wpAny_truthy_bool ⟨.bl (!c), H1, I1, rfl, q1⟩)
end
end L2

namespace L2
open PySem PySem.Spec PyProof.Rows

/-! ### a list, a tuple that is read: tracked, frozen, or an object of the module -/
def SqL (K : PySem.W.Frag) (H : Hp) (a : Addr) (xs : List V) : Prop :=
  Rd H a (.lst xs) ∨
    ∃ (o : Obj) (its : Array Value) (n : Nat), K.lookup a = some o ∧ o.cls = .type "list" ∧ o.dict = none ∧ o.data = .seq its n ∧ its.size ≤ sizeLine ∧ Vals xs its.toList
def SqT (K : PySem.W.Frag) (H : Hp) (a : Addr) (xs : List V) : Prop :=
  Rd H a (.tup xs) ∨
    ∃ (o : Obj) (its : Array Value) (n : Nat), K.lookup a = some o ∧ o.cls = .type "tuple" ∧ o.data = .seq its n ∧ its.size ≤ sizeLine ∧ Vals xs its.toList
def absV : Value → Option V
  | .none => some .non
  | .bool b => some (.bl b)
  | .int i _ => some (.int i)
  | .str x _ => some (.str x)
  | .bytes b _ => some (.byt b)
  | .float b _ => some (.flt b)
  | .ref a => some (.ref a)
  | .type n => some (.ty n)
  | _ => none
theorem RelV.abs {x : V} {u : Value} (r : RelV x u) : absV u = some x := by
  cases x with
  | non => cases r; rfl
  | bl _ => cases r; rfl
  | int _ => obtain ⟨t, rfl⟩ := r; rfl
  | str _ => obtain ⟨t, rfl⟩ := r; rfl
  | byt _ => obtain ⟨t, rfl⟩ := r; rfl
  | flt _ => obtain ⟨t, rfl⟩ := r; rfl
  | ref _ => cases r; rfl
  | ty _ => cases r; rfl
theorem RelV.inj {x y : V} {u : Value} (r : RelV x u) (q : RelV y u) : x = y := Option.some.inj (r.abs.symm.trans q.abs)
theorem Vals.inj : ∀ {xs ys : List V} {us : List Value}, Vals xs us → Vals ys us → xs = ys
  | _, _, _, .nil, .nil => rfl
  | _, _, _, .cons r t, .cons r' t' => by rw [r.inj r', Vals.inj t t']
section
variable {X : Cx} {pins : List (Addr × Obj)} {σ : St} {H : Hp} {s : Shared} {a : Addr} {xs ys : List V}
theorem SqL.of {K : PySem.W.Frag} (h : H a = some (.lst xs)) : SqL K H a xs := .inl (.inl h)
theorem SqT.of {K : PySem.W.Frag} (h : H a = some (.tup xs)) : SqT K H a xs := .inl (.inl h)
theorem Inv.list (I : Inv X pins σ H s) (h : SqL X.K H a xs) : ∃ its : List Value, Vals xs its ∧ PlainL s.heap a its.toArray ∧ xs.length ≤ sizeLine := by
  rcases h with h | ⟨o, its, n, hk, hc, hd, hs, hz, r⟩
  · obtain ⟨z, its, n, r, e⟩ := h.ok I.hok
    exact ⟨its, r, ⟨_, n, e, rfl, rfl, rfl⟩, z⟩
  · refine ⟨its.toList, r, ⟨o, n, I.kIn a o hk, hc, hd, by simpa using hs⟩, ?_⟩
    have e := r.length
    simp only [Array.length_toList] at e
    omega
theorem Inv.tuple (I : Inv X pins σ H s) (h : SqT X.K H a xs) : ∃ its : List Value, Vals xs its ∧ IsTup s.heap a its.toArray ∧ xs.length ≤ sizeLine := by
  rcases h with h | ⟨o, its, n, hk, hc, hs, hz, r⟩
  · obtain ⟨z, its, r, p⟩ := h.ok I.hok
    exact ⟨its, r, p.tup, z⟩
  · refine ⟨its.toList, r, ⟨o, I.kIn a o hk, hc, n, by simpa using hs⟩, ?_⟩
    have e := r.length
    simp only [Array.length_toList] at e
    omega
theorem Inv.list_inj (I : Inv X pins σ H s) (h : SqL X.K H a xs) (h' : SqL X.K H a ys) : xs = ys := by
  obtain ⟨its, r, ⟨o, n, e, _, _, d⟩, _⟩ := I.list h
  obtain ⟨its', r', ⟨o', n', e', _, _, d'⟩, _⟩ := I.list h'
  rw [e] at e'; cases e'
  rw [d] at d'
  injection d' with d1 _
  have : its = its' := by simpa using congrArg Array.toList d1
  subst this
  exact r.inj r'
theorem Inv.tuple_inj (I : Inv X pins σ H s) (h : SqT X.K H a xs) (h' : SqT X.K H a ys) : xs = ys := by
  obtain ⟨its, r, ⟨o, e, _, n, d⟩, _⟩ := I.tuple h
  obtain ⟨its', r', ⟨o', e', _, n', d'⟩, _⟩ := I.tuple h'
  rw [e] at e'; cases e'
  rw [d] at d'
  injection d' with d1 _
  have : its = its' := by simpa using congrArg Array.toList d1
  subst this
  exact r.inj r'
end

/-! ### another wish about exceptions -/
abbrev Cx.wish (X : Cx) (E : Value → Shared → Prop) : Cx := { X with xe := E }
/-- no exception leaves -/
abbrev Cx.nox (X : Cx) : Cx := X.wish fun _ _ => False
theorem Cx.Ok.wish {X : Cx} (ok : X.Ok) (E : Value → Shared → Prop) : (X.wish E).Ok :=
  ⟨ok.mod, ok.kind, ok.glob, ok.blt, ok.above, ok.inj, ok.has, ok.cab, ok.hd, ok.frames, ok.stk, ok.exf, ok.bs, ok.bsz, ok.noex, ok.exfs, ok.funs, ok.frf⟩
theorem Cx.Ok.unwish {X : Cx} {E : Value → Shared → Prop} (ok : (X.wish E).Ok) : X.Ok :=
  ⟨ok.mod, ok.kind, ok.glob, ok.blt, ok.above, ok.inj, ok.has, ok.cab, ok.hd, ok.frames, ok.stk, ok.exf, ok.bs, ok.bsz, ok.noex, ok.exfs, ok.funs, ok.frf⟩
section
variable {X : Cx} {pins : List (Addr × Obj)} {σ : St} {H : Hp} {s : Shared} {E : Value → Shared → Prop}
theorem Inv.wish (I : Inv X pins σ H s) (E : Value → Shared → Prop) : Inv (X.wish E) pins σ H s := ⟨I.ok.wish E, I.os, I.bare, I.base, I.loc, I.cell, I.free, I.freeC, I.pin, I.hok, I.len⟩
theorem Inv.unwish (I : Inv (X.wish E) pins σ H s) : Inv X pins σ H s := ⟨I.ok.unwish, I.os, I.bare, I.base, I.loc, I.cell, I.free, I.freeC, I.pin, I.hok, I.len⟩
theorem SP.unwish {D : Ends} {f : Flow} {s' : Shared} (h : SP (X.wish E) pins D f s') : SP X pins D f s' := by
  cases f with
  | next => obtain ⟨σ', H', I, q⟩ := h; exact ⟨σ', H', I.unwish, q⟩
  | brk => obtain ⟨σ', H', I, q⟩ := h; exact ⟨σ', H', I.unwish, q⟩
  | cont => obtain ⟨σ', H', I, q⟩ := h; exact ⟨σ', H', I.unwish, q⟩
  | ret u => obtain ⟨v, σ', H', I, r, q⟩ := h; exact ⟨v, σ', H', I.unwish, r, q⟩
theorem PE.nox {e : Expr} {t : TE} (h : PE X.nox e t) : PE X e t := fun pins s σ H Q I hw =>
  wpAny_mono (h pins s σ H Q (I.wish _) hw) (fun _ _ ⟨v, H', I', r, q⟩ => ⟨v, H', I'.unwish, r, q⟩) fun _ _ z => False.elim z
theorem PT.nox {e : Expr} {t : TT} (h : PT X.nox e t) : PT X e t := fun pins s σ H Q I hw =>
  wpAny_mono (h pins s σ H Q (I.wish _) hw) (fun _ _ ⟨H', I', q⟩ => ⟨H', I'.unwish, q⟩) fun _ _ z => False.elim z
theorem PSs.nox {st : List Stmt} {t : TS} (h : PSs X.nox st t) : PSs X st t := fun pins s σ H D I hw =>
  wpAny_mono (h pins s σ H D (I.wish _) hw) (fun _ _ q => q.unwish) fun _ _ z => False.elim z
end

/-! ### blocks and small statements -/
section
variable {X : Cx} {st : Stmt} {rest : List Stmt} {t u : TS} {e : Expr} {te : TE} {pos : Pos}
def tNext : TS := fun D σ H => D.nx σ H
def tSeq (t u : TS) : TS := fun D σ H => t { D with nx := u D } σ H
theorem pss_nil : PSs X [] tNext := fun _ _ σ H _ I h => wpAny_execs_nil ⟨σ, H, I, h⟩
theorem pss_cons (h1 : PS X st t) (h2 : PSs X rest u) : PSs X (st :: rest) (tSeq t u) := by
  intro pins s σ H D I h
  refine wpAny_execs_cons (thn (h1 pins s σ H { D with nx := u D } I h) fun f s1 q => ?_)
  cases f with
  | next =>
    obtain ⟨σ', H', I', q⟩ := q
    exact h2 pins s1 σ' H' D I' q
  | ret v => exact q
  | brk => exact q
  | cont => exact q
theorem pss_one (h1 : PS X st t) : PSs X [st] t := by
  intro pins s σ H D I h
  refine wpAny_execs_cons (thn (h1 pins s σ H D I h) fun f s1 q => ?_)
  cases f with
  | next => exact wpAny_execs_nil q
  | ret v => exact q
  | brk => exact q
  | cont => exact q
/-- in a def's body nothing is shown -/
theorem Inv.quiet {pins : List (Addr × Obj)} {σ : St} {H : Hp} {s : Shared} (I : Inv X pins σ H s) : interactive X.env = false := by simp [interactive, I.ok.kind]
/-- an expression whose value is dropped -/
def tDrop (te : TE) : TS := fun D σ H => te σ H fun _ H1 => D.nx σ H1
theorem ps_expr (he : PE X e te) (hs : swapsWith e none pos.line X.env = pure false := by rfl) : PS X (.Expr e pos) (tDrop te) := by
  intro pins s σ H D I h
  exact wpAny_Expr_any (thn (he pins s σ H _ I h) fun v s1 ⟨x, H1, I1, r1, q1⟩ => ⟨σ, H1, I1, q1⟩) I.quiet hs
def tRet (te : TE) : TS := fun D σ H => te σ H D.rt
theorem ps_ret (he : PE X e te) : PS X (.Return (some e) pos) (tRet te) := by
  intro pins s σ H D I h
  exact wpAny_Return_some (thn (he pins s σ H _ I h) fun v s1 ⟨x, H1, I1, r1, q1⟩ => ⟨x, σ, H1, I1, r1, q1⟩)
def tIfS (c : TT) (t u : TS) : TS := fun D σ H => c σ H fun b H1 => if b = true then t D σ H1 else u D σ H1
theorem ps_if {c : Expr} {a b : List Stmt} {tc : TT} (hc : PT X c tc) (ha : PSs X a t) (hb : PSs X b u) : PS X (.If c a b pos) (tIfS tc t u) := by
  intro pins s σ H D I h
  refine wpAny_If (thn (hc pins s σ H _ I h) fun d s1 ⟨H1, I1, q1⟩ => ?_)
  cases d with
  | true => exact ha pins s1 σ H1 D I1 q1
  | false => exact hb pins s1 σ H1 D I1 q1
end

/-! ### targets -/
abbrev TG := V → St → Hp → (St → Hp → Prop) → Prop
abbrev TGs := List V → St → Hp → (St → Hp → Prop) → Prop
def PG (X : Cx) (target : Expr) (t : TG) : Prop :=
  ∀ (pins : List (Addr × Obj)) (s : Shared) (σ : St) (H : Hp) (v : V) (u : Value) (Q : St → Hp → Prop), Inv X pins σ H s → RelV v u → t v σ H Q →
    wpAny (model X.prog X.w) X.A (assign target X.env u) (fun _ s' => ∃ σ' H', Inv X pins σ' H' s' ∧ Q σ' H') X.xe s
/-- several targets, one after another -/
def PGs (X : Cx) (ts : List Expr) (t : TGs) : Prop :=
  ∀ (pins : List (Addr × Obj)) (s : Shared) (σ : St) (H : Hp) (vs : List V) (us : List Value) (Q : St → Hp → Prop), Inv X pins σ H s → Vals vs us → t vs σ H Q →
    wpAny (model X.prog X.w) X.A (assignInOrder ((assignEach ts X.env).map (·.2)) us) (fun _ s' => ∃ σ' H', Inv X pins σ' H' s' ∧ Q σ' H') X.xe s
/-- o[i] = v, by values -/
abbrev TSet := V → V → V → Hp → (Hp → Prop) → Prop
def PSet (X : Cx) (t : TSet) : Prop :=
  ∀ (pins : List (Addr × Obj)) (s : Shared) (σ : St) (H : Hp) (o i v : V) (ov iv u : Value) (Q : Hp → Prop), Inv X pins σ H s → RelV o ov → RelV i iv → RelV v u → t o i v H Q →
    wpAny (model X.prog X.w) X.A (setItem ov iv u) (fun _ s' => ∃ H', Inv X pins σ H' s' ∧ Q H') X.xe s
section
variable {X : Cx} {pos : Pos}
def gName (i : Nat) : TG := fun v σ H Q => Q (σ.set i (some v)) H
theorem pg_name {i : Nat} {x : Str} (hN : X.N.Nodup) (hi : X.N[i]? = some x) (hx : Loc X.env.scope x) (hf : X.fn x = true ∨ X.env.scope.names.lookup x = some .local := by first | exact .inl rfl | exact .inr rfl | assumption) : PG X (.Name x pos) (gName i) := by
  intro pins s σ H v u Q I r h
  exact wpAny_assign_Name (store_ok I hN hi hx r (fun s' I' => ⟨_, H, I', h⟩) hf)
def gNil : TGs := fun vs σ H Q => vs = [] ∧ Q σ H
def gCons (t : TG) (u : TGs) : TGs := fun vs σ H Q => ∃ v r, vs = v :: r ∧ t v σ H fun σ' H' => u r σ' H' Q
theorem pgs_nil : PGs X [] gNil := by
  intro pins s σ H vs us Q I r h
  obtain ⟨e, h⟩ := h
  subst e
  cases r
  exact assignInOrder_nil ⟨σ, H, I, h⟩
theorem pgs_cons {e : Expr} {es : List Expr} {t : TG} {u : TGs} (h1 : PG X e t) (h2 : PGs X es u)
    (hs : (assignEach (e :: es) X.env).map (·.2) = assign e X.env :: (assignEach es X.env).map (·.2) := by rfl) : PGs X (e :: es) (gCons t u) := by
  intro pins s σ H vs us Q I r h
  obtain ⟨v, vr, e1, h⟩ := h
  subst e1
  cases r with
  | cons r rr =>
    rw [hs]
    refine assignInOrder_cons (thn (h1 pins s σ H _ _ _ I r h) fun _ s1 ⟨σ1, H1, I1, q1⟩ => ?_)
    exact h2 pins s1 σ1 H1 _ _ Q I1 rr q1
/-- (a, b, ..) = a tuple of that length -/
def gTup (K : PySem.W.Frag) (n : Nat) (t : TGs) : TG := fun v σ H Q => ∃ a xs, v = .ref a ∧ SqT K H a xs ∧ xs.length = n ∧ t xs σ H Q
theorem pg_tup {es : List Expr} {k : Nat} {t : TGs} {n : Nat} (hc : X.calm = true) (h : PGs X es t)
    (hn : (assignEach es X.env).length = n := by rfl) (hst : (assignEach es X.env).findIdx? (·.1) = none := by rfl) : PG X (.Tuple es k pos) (gTup X.K n t) := by
  intro pins s σ H v u Q I r hw
  obtain ⟨a, xs, e1, hq, hl, hw⟩ := hw
  subst e1
  cases r
  obtain ⟨its, rv, ht, hz⟩ := I.tuple hq
  refine assign_Tuple_tuple (I.ok.hd hc) ht (by simp [hn, ← hl, rv.length]) hst fun h' hx => ?_
  have I1 : Inv X pins σ H { s with heap := h' } := I.kept (t' := s.toks) fun b o e => hx b o (Nat.ne_of_lt (Heap.lt_size e)) e
  exact h pins _ σ H xs _ Q I1 (by simpa using rv) hw
/-- o[i] = .. -/
def gSub (to ti : TE) (t : TSet) : TG := fun v σ H Q => to σ H fun o H1 => ti σ H1 fun i H2 => t o i v H2 fun H3 => Q σ H3
theorem pg_sub {o i : Expr} {to ti : TE} {t : TSet} (ho : PE X o to) (hi : PE X i ti) (hs : PSet X t)
    (ha : ∀ v, assign (.Subscript o i pos) X.env v = (do
      let ov ← holding [v] (eval o X.env)
      let iv ← holding [v, ov] (eval i X.env)
      standAt pos
      holding [v, ov, iv] (setItem ov iv v)
      release [v, ov, iv] []) := by intro _; rfl) : PG X (.Subscript o i pos) (gSub to ti t) := by
  intro pins s σ H v u Q I r h
  rw [ha]
  refine wpAny_bind (wpAny_holding (thn (ho pins s σ H _ I h) fun ov s1 ⟨x, H1, I1, r1, q1⟩ => ?_))
  refine wpAny_bind (wpAny_holding (thn (hi pins s1 σ H1 _ I1 q1) fun iv s2 ⟨y, H2, I2, r2, q2⟩ => ?_))
  refine wpAny_bind (wpAny_standAt (wpAny_bind (wpAny_holding (thn (hs pins s2 σ H2 x y v ov iv u _ I2 r1 r2 r q2) fun _ s3 ⟨H3, I3, q3⟩ => ?_))))
  exact wpAny_release ⟨σ, H3, I3, q3⟩
/-- target = value -/
def tAsg (te : TE) (g : TG) : TS := fun D σ H => te σ H fun x H1 => g x σ H1 D.nx
theorem ps_asg {tg e : Expr} {te : TE} {g : TG} (he : PE X e te) (hg : PG X tg g) (hs : swapsWithSole [tg] e pos.line X.env = pure false := by rfl) (hw : swappedStores [tg] e X.env = pure none := by rfl)
    (h1 : (assignEach [tg] X.env).map (·.2) = [assign tg X.env] := by rfl) : PS X (.Assign [tg] e pos) (tAsg te g) := by
  intro pins s σ H D I h
  refine wpAny_Assign_stores (thn (he pins s σ H _ I h) fun v s1 ⟨x, H1, I1, r1, q1⟩ => ?_) hs hw
  rw [h1]
  exact thn (hg pins s1 σ H1 x v _ I1 r1 q1) fun _ s2 q => q
/-- name = value -/
theorem ps_set {i : Nat} {x : Str} {e : Expr} {te : TE} {pos' : Pos} (hN : X.N.Nodup) (hi : X.N[i]? = some x) (hx : Loc X.env.scope x) (he : PE X e te) (hs : swapsWith e (some (.Name x pos')) pos.line X.env = pure false := by rfl) (hf : X.fn x = true ∨ X.env.scope.names.lookup x = some .local := by first | exact .inl rfl | exact .inr rfl | assumption) :
    PS X (.Assign [.Name x pos'] e pos) (tAsg te (gName i)) := by
  intro pins s σ H D I h
  refine wpAny_Assign_Name (thn (he pins s σ H _ I h) fun v s1 ⟨y, H1, I1, r1, q1⟩ => ?_) hs
  exact store_ok I1 hN hi hx r1 (fun s2 I2 => ⟨_, H1, I2, q1⟩) hf
end

/-! ### while -/
section
variable {X : Cx} {pos : Pos}
/-- the invariant W with its measure -/
def tWhile (c : TT) (tb : TS) : TS := fun D σ H => ∃ W : Nat → St → Hp → Prop, (∃ m, W m σ H) ∧ ∀ m σ H, W m σ H →
  c σ H fun b H1 => if b = true then ∃ N : St → Hp → Prop, (∀ σ' H', N σ' H' → ∃ m', m' < m ∧ W m' σ' H') ∧ tb { D with nx := N, ct := N, bk := D.nx } σ H1 else D.nx σ H1
theorem ps_while {c : Expr} {body : List Stmt} {tc : TT} {tb : TS} (hp : PassesOwn (model X.prog X.w) X.A X.env X.xe) (hc : PT X c tc) (hb : PSs X body tb) : PS X (.While c body [] pos) (tWhile tc tb) := by
  intro pins s σ H D I h
  obtain ⟨W, ⟨m0, w0⟩, turn⟩ := h
  refine wpAny_While (codeAny_whileLoop (fun n s' => ∃ σ' H', Inv X pins σ' H' s' ∧ W n σ' H') ?_ m0 ⟨σ, H, I, w0⟩)
  rintro n s1 ⟨σ1, H1, I1, w1⟩
  refine wpAny_passesOwn hp (thn (hc pins s1 σ1 H1 _ I1 (turn n σ1 H1 w1)) fun b s2 ⟨H2, I2, q2⟩ => ?_)
  cases b with
  | true =>
    obtain ⟨N, hN, q2⟩ := q2
    rw [if_pos rfl]
    refine wpAny_passesOwn hp (thn (hb pins s2 σ1 H2 _ I2 q2) fun f s3 q3 => ?_)
    cases f with
    | next =>
      obtain ⟨σ3, H3, I3, n3⟩ := q3
      obtain ⟨m', hm, w3⟩ := hN σ3 H3 n3
      exact ⟨m', hm, σ3, H3, I3, w3⟩
    | cont =>
      obtain ⟨σ3, H3, I3, n3⟩ := q3
      obtain ⟨m', hm, w3⟩ := hN σ3 H3 n3
      exact ⟨m', hm, σ3, H3, I3, w3⟩
    | brk => exact q3
    | ret v => exact q3
  | false =>
    rw [if_neg Bool.false_ne_true]
    exact wpAny_execs_nil ⟨σ1, H2, I2, q2⟩
end

/-! ### what a loop or a comprehension walks -/
/-- at turn i: it yields x (the heap may grow), or it stops -/
structure It where
  go : Nat → Hp → Prop
  yld : Nat → Hp → V → Hp → Prop
  stop : Nat → Hp → Prop
/-- the iterator's own objects may turn: they are not the frame's, not pinned, younger than the entry (or a comprehension's own) -/
def FpOk (X : Cx) (pins : List (Addr × Obj)) (H : Hp) (b : Addr) : Prop :=
  H b = none ∧ b ≠ X.env.locals ∧ b ∉ X.fs ∧ (b ∈ X.ex ∨ X.s₀.heap.objs.size ≤ b) ∧ (∀ x c, X.env.cells.lookup x = some c → c ≠ b) ∧ ∀ p ∈ X.pn ++ pins, p.1 ≠ b
theorem Inv.fpOk {X : Cx} {pins : List (Addr × Obj)} {σ : St} {H H' : Hp} {s : Shared} {b : Addr} (I : Inv X pins σ H s) (hb : s.heap.objs.size ≤ b) (hn : H' b = none) : FpOk X pins H' b := by
  refine ⟨hn, Nat.ne_of_gt (Nat.lt_of_lt_of_le I.lt hb), I.nofs hb, .inr (Nat.le_trans I.sz hb), fun x c e z => ?_, fun p hp z => ?_⟩
  · obtain ⟨v, q⟩ := I.cell x c e
    exact absurd (Nat.lt_of_lt_of_le q.lt (by rw [z]; exact hb)) (Nat.lt_irrefl _)
  · exact absurd (Nat.lt_of_lt_of_le (Heap.lt_size (I.pin p hp).1) (by rw [z]; exact hb)) (Nat.lt_irrefl _)
structure Turn (P : Program) (w : World) (K : PySem.W.Frag) (tg : Expr) (J : It) (fp : List Addr) (it : Addr) (tn : Nat → Heap → Prop) : Prop where
  mem : it ∈ fp
  obj : ∀ i h, tn i h → ∀ b ∈ fp, ∃ o, h.get? b = some o ∧ ∀ v, o.data ≠ .cell v
  keep : ∀ i h h', tn i h → (∀ b ∈ fp, ∀ o, h.get? b = some o → h'.get? b = some o) → tn i h'
  item : ∀ (X : Cx), X.prog = P → X.w = w → X.K = K → X.calm = true → ∀ (i : Nat) (pins : List (Addr × Obj)) (s : Shared) (σ : St) (H : Hp) (E : Value → Shared → Prop), Inv X pins σ H s → (∀ b ∈ fp, FpOk X pins H b) → tn i s.heap → J.go i H →
    wpAny (model P w) X.A (pyNext (.ref it)) (fun r s1 => ∃ u, r = some u ∧
      wpAny (model P w) X.A (letOwnedTupleGo tg (.ref it) u) (fun _ s2 => ∃ x H', Inv X pins σ H' s2 ∧ RelV x u ∧ J.yld i H x H' ∧ tn (i + 1) s2.heap ∧ ∀ b ∈ fp, H' b = none) E s1) E s
  done : ∀ (X : Cx), X.prog = P → X.w = w → X.K = K → X.calm = true → ∀ (i : Nat) (pins : List (Addr × Obj)) (s : Shared) (σ : St) (H : Hp) (E : Value → Shared → Prop), Inv X pins σ H s → (∀ b ∈ fp, FpOk X pins H b) → tn i s.heap → J.stop i H →
    wpAny (model P w) X.A (pyNext (.ref it)) (fun r s1 => r = none ∧ Inv X pins σ H s1) E s
  self : ∀ (A : Around) (i : Nat) (s : Shared) (Q : Value → Shared → Prop) (E : Value → Shared → Prop), tn i s.heap → Q (.ref it) s → wpAny (model P w) A (pyIter (.ref it)) Q E s
abbrev TI := St → Hp → (It → Hp → Prop) → Prop
/-- an iterator has come -/
def PIE (X : Cx) (pins : List (Addr × Obj)) (σ : St) (tg : Expr) (R : It → Hp → Prop) (itv : Value) (s2 : Shared) : Prop :=
  ∃ (it : Addr) (fp : List Addr) (tn : Nat → Heap → Prop) (J : It) (H' : Hp), itv = .ref it ∧ Inv X pins σ H' s2 ∧ Turn X.prog X.w X.K tg J fp it tn ∧ tn 0 s2.heap ∧ (∀ b ∈ fp, FpOk X pins H' b) ∧ R J H'
def PI (X : Cx) (tg iter : Expr) (wi : TI) : Prop :=
  ∀ (pins : List (Addr × Obj)) (s : Shared) (σ : St) (H : Hp) (R : It → Hp → Prop), Inv X pins σ H s → wi σ H R →
    wpAny (model X.prog X.w) X.A (eval iter X.env) (fun v s1 => wpAny (model X.prog X.w) X.A (pyIter v) (PIE X pins σ tg R) X.xe s1) X.xe s

/-- the step ahead of the store is nothing for an iterator that keeps no tuple -/
theorem go_of {M : Model} {A : Around} {E : Value → Shared → Prop} {s : Shared} {tg : Expr} {it : Addr} {u : Value} {o : Obj} {n : String} {vs : Array Value} {Q : Unit → Shared → Prop} (ho : s.heap.get? it = some o) (hc : o.cls = .type n) (hd : o.data = .fields vs)
    (hn : ["enumerate", "zip", "dict_itemiterator", "dict_reverseitemiterator", "odict_iterator", "itertools.zip_longest", "itertools.pairwise"].contains n = false) (hQ : Q () s) : wpAny M A (letOwnedTupleGo tg (.ref it) u) Q E s := by
  unfold letOwnedTupleGo
  cases tg <;> first
    | exact wpAny_pure hQ
    | (cases u <;> first
        | exact wpAny_pure hQ
        | (refine wpAny_bind (wpAny_load ho ?_)
           rw [hc, hd]
           show wpAny M A (if (["enumerate", "zip", "dict_itemiterator", "dict_reverseitemiterator", "odict_iterator", "itertools.zip_longest", "itertools.pairwise"].contains n && vs[0]? == some (rawInt _)) = true then _ else _) Q E s
           rw [if_neg (by intro h; rw [hn, Bool.false_and] at h; cases h)]
           exact wpAny_pure hQ))

/-- the list at a, as it stands at each turn (a loop may append to it) -/
def Itl (K : PySem.W.Frag) (a : Addr) : It :=
  ⟨fun i H => ∃ xs x, SqL K H a xs ∧ xs[i]? = some x, fun i H x H' => H' = H ∧ ∀ xs, SqL K H a xs → xs[i]? = some x, fun i H => ∃ xs, SqL K H a xs ∧ xs.length ≤ i⟩
def Itt (K : PySem.W.Frag) (a : Addr) : It :=
  ⟨fun i H => ∃ xs x, SqT K H a xs ∧ xs[i]? = some x, fun i H x H' => H' = H ∧ ∀ xs, SqT K H a xs → xs[i]? = some x, fun i H => ∃ xs, SqT K H a xs ∧ xs.length ≤ i⟩
/-- lo, lo + 1, .. (n of them) -/
def Itr (lo : Int) (n : Nat) : It := ⟨fun i _ => i < n, fun i H x H' => H' = H ∧ x = .int (lo + i), fun i _ => n ≤ i⟩
theorem turn_list {P : Program} {w : World} {K : PySem.W.Frag} {tg : Expr} (a it : Addr) : Turn P w K tg (Itl K a) [it] it (fun i h => h.IsListIter it a i) where
  mem := by simp
  obj := fun i h st b hb => by
    have e : b = it := by simpa using hb
    subst e
    obtain ⟨o, e, c, d⟩ := st
    exact ⟨o, e, fun v z => by rw [d] at z; cases z⟩
  keep := fun i h h' st k => st.at fun o e => k it (by simp) o e
  item := by
    intro X hP hw hK hc i pins s σ H E I hf st hg
    subst hP hw hK
    obtain ⟨xs, x, hq, hx⟩ := hg
    obtain ⟨its, rv, p, hz⟩ := I.list hq
    obtain ⟨u, hu, ru⟩ := rv.get hx
    obtain ⟨f0, f1, f2, f3, f4, f5⟩ := hf it (by simp)
    refine wpAny_pyNext_list_item st p.isList (x := u) (by simpa using hu) fun h' st' sb => ?_
    have I1 : Inv X pins σ H { s with heap := h' } := I.turned (t' := s.toks) (fun b o hb e => (sb.2 b hb).trans e) f0 f1 f3 f4 f5
    obtain ⟨o, e, c, d⟩ := id st'
    exact ⟨u, rfl, go_of (s := { s with heap := h' }) e c d (by decide) ⟨x, H, I1, ru, ⟨rfl, fun ys hy => by rw [I.list_inj hy hq]; exact hx⟩, st', fun b hb => (hf b hb).1⟩⟩
  done := by
    intro X hP hw hK hc i pins s σ H E I hf st hg
    subst hP hw hK
    obtain ⟨xs, hq, hx⟩ := hg
    obtain ⟨its, rv, p, hz⟩ := I.list hq
    obtain ⟨f0, f1, f2, f3, f4, f5⟩ := hf it (by simp)
    have hl := rv.length
    exact wpAny_pyNext_list_end (I.ok.hd hc) st p.isList (by simp; omega) fun h' eb => ⟨rfl, I.turned (t' := s.toks) (fun b o hb e => eb b o hb e) f0 f1 f3 f4 f5⟩
  self := fun _ _ _ _ _ st h => wpAny_pyIter_listiter st h
theorem turn_tuple {P : Program} {w : World} {K : PySem.W.Frag} {tg : Expr} (a it : Addr) : Turn P w K tg (Itt K a) [it] it (fun i h => h.IsTupleIter it a i) where
  mem := by simp
  obj := fun i h st b hb => by
    have e : b = it := by simpa using hb
    subst e
    obtain ⟨o, e, c, d⟩ := st
    exact ⟨o, e, fun v z => by rw [d] at z; cases z⟩
  keep := fun i h h' st k => st.at fun o e => k it (by simp) o e
  item := by
    intro X hP hw hK hc i pins s σ H E I hf st hg
    subst hP hw hK
    obtain ⟨xs, x, hq, hx⟩ := hg
    obtain ⟨its, rv, p, hz⟩ := I.tuple hq
    obtain ⟨u, hu, ru⟩ := rv.get hx
    obtain ⟨f0, f1, f2, f3, f4, f5⟩ := hf it (by simp)
    refine wpAny_pyNext_tuple_item st (show s.heap.IsTuple a its.toArray from p) (x := u) (by simpa using hu) fun h' st' sb => ?_
    have I1 : Inv X pins σ H { s with heap := h' } := I.turned (t' := s.toks) (fun b o hb e => (sb.2 b hb).trans e) f0 f1 f3 f4 f5
    obtain ⟨o, e, c, d⟩ := id st'
    exact ⟨u, rfl, go_of (s := { s with heap := h' }) e c d (by decide) ⟨x, H, I1, ru, ⟨rfl, fun ys hy => by rw [I.tuple_inj hy hq]; exact hx⟩, st', fun b hb => (hf b hb).1⟩⟩
  done := by
    intro X hP hw hK hc i pins s σ H E I hf st hg
    subst hP hw hK
    obtain ⟨xs, hq, hx⟩ := hg
    obtain ⟨its, rv, p, hz⟩ := I.tuple hq
    obtain ⟨f0, f1, f2, f3, f4, f5⟩ := hf it (by simp)
    have hl := rv.length
    exact wpAny_pyNext_tuple_end (I.ok.hd hc) st (show s.heap.IsTuple a its.toArray from p) (by simp; omega) fun h' eb => ⟨rfl, I.turned (t' := s.toks) (fun b o hb e => eb b o hb e) f0 f1 f3 f4 f5⟩
  self := fun _ _ _ _ _ st h => wpAny_pyIter_tupleiter st h
theorem turn_range {P : Program} {w : World} {K : PySem.W.Frag} {tg : Expr} (it : Addr) (lo : Int) (n : Nat) : Turn P w K tg (Itr lo n) [it] it (fun i h => IsRangeIter h it (lo + (i : Nat) * 1) ((n : Int) - (i : Nat)) 1) where
  mem := by simp
  obj := fun i h st b hb => by
    have e : b = it := by simpa using hb
    subst e
    exact ⟨_, st, fun v z => by
      have z' : Data.fields _ = Data.cell v := z
      cases z'⟩
  keep := fun i h h' st k => k it (by simp) _ st
  item := by
    intro X hP hw hK hc i pins s σ H E I hf st hg
    subst hP hw hK
    obtain ⟨f0, f1, f2, f3, f4, f5⟩ := hf it (by simp)
    have W := Walks.range (prog := X.prog) (w := X.w) (I.ok.hd hc) it lo 1 n
    refine W.item i s _ _ hg st fun v h' tk hv st' kk => ?_
    obtain ⟨t, rfl⟩ := hv
    have I1 : Inv X pins σ H { s with heap := h', toks := tk } := I.turned (fun b o hb e => kk b o (by simpa using hb) e) f0 f1 f3 f4 f5
    refine ⟨_, rfl, go_of (s := { s with heap := h', toks := tk }) (n := "range_iterator") st' rfl rfl (by decide) ⟨.int (lo + i), H, I1, ⟨t, ?_⟩, ⟨rfl, rfl⟩, st', fun b hb => (hf b hb).1⟩⟩
    rw [Int.mul_one]
  done := by
    intro X hP hw hK hc i pins s σ H E I hf st hg
    subst hP hw hK
    obtain ⟨f0, f1, f2, f3, f4, f5⟩ := hf it (by simp)
    exact wpAny_pyNext_range_end (I.ok.hd hc) st (by have : n ≤ i := hg; omega) fun h' eb => ⟨rfl, I.turned (t' := s.toks) (fun b o hb e => eb b o hb e) f0 f1 f3 f4 f5⟩
  self := fun _ _ _ _ _ st h => wpAny_pyIter_rangeiter st h
end L2

namespace L2
open PySem PySem.Spec PyProof.Rows
section
variable {X : Cx} {tg : Expr}
def iList (K : PySem.W.Frag) (tl : TE) : TI := fun σ H R => tl σ H fun x H1 => ∃ a, x = .ref a ∧ (∃ xs, SqL K H1 a xs) ∧ R (Itl K a) H1
def iTup (K : PySem.W.Frag) (tl : TE) : TI := fun σ H R => tl σ H fun x H1 => ∃ a, x = .ref a ∧ (∃ xs, SqT K H1 a xs) ∧ R (Itt K a) H1
theorem pi_list {l : Expr} {tl : TE} (hl : PE X l tl) : PI X tg l (iList X.K tl) := by
  intro pins s σ H R I h
  refine thn (hl pins s σ H _ I h) fun v s1 ⟨x, H1, I1, r1, q1⟩ => ?_
  obtain ⟨a, e, ⟨xs, hq⟩, q⟩ := q1
  subst e
  cases r1
  obtain ⟨its, rv, p, hz⟩ := I1.list hq
  refine wpAny_pyIter_list p.isList ?_
  refine ⟨s1.heap.objs.size, [s1.heap.objs.size], _, _, H1, rfl, I1.kept (t' := s1.toks) fun b o e => Heap.get?_push_of_some _ e, turn_list a _, ⟨_, Heap.get?_push_size _ rfl, rfl, rfl⟩, fun b hb => ?_, q⟩
  have e : b = s1.heap.objs.size := by simpa using hb
  subst e
  exact I1.fpOk (Nat.le_refl _) (I1.hok.fresh (Nat.le_refl _))
theorem pi_tup {l : Expr} {tl : TE} (hl : PE X l tl) : PI X tg l (iTup X.K tl) := by
  intro pins s σ H R I h
  refine thn (hl pins s σ H _ I h) fun v s1 ⟨x, H1, I1, r1, q1⟩ => ?_
  obtain ⟨a, e, ⟨xs, hq⟩, q⟩ := q1
  subst e
  cases r1
  obtain ⟨its, rv, p, hz⟩ := I1.tuple hq
  refine wpAny_pyIter_tuple (show s1.heap.IsTuple a its.toArray from p) ?_
  refine ⟨s1.heap.objs.size, [s1.heap.objs.size], _, _, H1, rfl, I1.kept (t' := s1.toks) fun b o e => Heap.get?_push_of_some _ e, turn_tuple a _, ⟨_, Heap.get?_push_size _ rfl, rfl, rfl⟩, fun b hb => ?_, q⟩
  have e : b = s1.heap.objs.size := by simpa using hb
  subst e
  exact I1.fpOk (Nat.le_refl _) (I1.hok.fresh (Nat.le_refl _))
/-- a range object just made, walked -/
theorem range_it {pins : List (Addr × Obj)} {σ : St} {H : Hp} {s : Shared} {R : It → Hp → Prop} {E : Value → Shared → Prop} {lo hi : Int} {t u v : Tok} {tk : Nat} (I : Inv X pins σ H s) (h1 : -(2 ^ 62) ≤ lo) (h2 : lo < 2 ^ 62) (h3 : -(2 ^ 62) ≤ hi) (h4 : hi < 2 ^ 62)
    (q : R (Itr lo (hi - lo).toNat) H) : wpAny (model X.prog X.w) X.A (pyIter (.ref s.heap.objs.size)) (PIE X pins σ tg R) E { s with heap := s.heap.push { cls := .type "range", data := .fields #[.int lo t, .int hi u, .int 1 v] }, toks := tk } := by
  refine wpAny_pyIter_range (IsRange.new ..) (small_one h1 h2 h3 h4) ?_
  have I1 : Inv X pins σ H { s with heap := s.heap.push { cls := .type "range", data := .fields #[.int lo t, .int hi u, .int 1 v] }, toks := tk } := I.kept fun b o e => Heap.get?_push_of_some _ e
  refine ⟨(s.heap.push { cls := .type "range", data := .fields #[.int lo t, .int hi u, .int 1 v] }).objs.size, [(s.heap.push { cls := .type "range", data := .fields #[.int lo t, .int hi u, .int 1 v] }).objs.size], _, _, H, rfl,
    I1.kept (t' := tk) fun b o e => Heap.get?_push_of_some _ e, turn_range _ lo (hi - lo).toNat, ?_, fun b hb => ?_, q⟩
  · have e1 : lo + ((0 : Nat) : Int) * 1 = lo := by simp
    have e2 : (((hi - lo).toNat : Nat) : Int) - ((0 : Nat) : Int) = Builtin.Range.rangeSize lo hi 1 := by rw [rangeSize_one]; split <;> omega
    show IsRangeIter _ _ (lo + ((0 : Nat) : Int) * 1) ((((hi - lo).toNat : Nat) : Int) - ((0 : Nat) : Int)) 1
    rw [e1, e2]
    exact Heap.get?_push_size _ rfl
  · have e : b = (s.heap.push { cls := .type "range", data := .fields #[.int lo t, .int hi u, .int 1 v] }).objs.size := by simpa using hb
    subst e
    exact I1.fpOk (Nat.le_refl _) (I1.hok.fresh (Nat.le_refl _))
def iRng1 (ta : TA) : TI := fun σ H R => ta σ H fun vs H1 => ∃ j : Int, vs = [.int j] ∧ -(2 ^ 62) ≤ j ∧ j < 2 ^ 62 ∧ R (Itr 0 j.toNat) H1
theorem pi_range1 {a : Expr} {ta : TA} {p pos : Pos} (hg : Gl X "range") (hm : X.mg "range" = none) (ha : PA X [a] ta) (hs : starEach [a] X.env = [(false, eval a X.env)] := by rfl) : PI X tg (.Call (.Name "range" p) [a] [] pos) (iRng1 ta) := by
  intro pins s σ H R I h
  refine Call_ (ld_blt I hg hm boot_range (PyProof.Rows.callWith_type1 (thn (ha pos pins s σ H _ I h) fun us s1 ⟨vs, H1, I1, r1, q1⟩ => ?_) hs rfl))
  obtain ⟨j, e, q1, q2, q⟩ := q1
  subst e
  cases r1 with
  | cons r rr =>
    cases rr
    obtain ⟨t, rfl⟩ := r
    exact call_range_1 (range_it I1 (by omega) (by omega) q1 q2 (by simpa using q))
/-! ### for -/
/-- W: the invariant by the turn and a measure; N: what the body is to reach -/
def tFor (wi : TI) (g : TG) (tb : TS) : TS := fun D σ H => wi σ H fun J H1 => ∃ W : Nat → Nat → St → Hp → Prop, (∃ m, W 0 m σ H1) ∧ ∀ i m σ H, W i m σ H →
  (J.stop i H ∧ D.nx σ H) ∨ (J.go i H ∧ ∃ N : St → Hp → Prop, (∀ σ' H', N σ' H' → ∃ m', m' < m ∧ W (i + 1) m' σ' H') ∧ ∀ x H', J.yld i H x H' → g x σ H' fun σ2 H2 => tb { D with nx := N, ct := N, bk := D.nx } σ2 H2)
/-- the records at fp as they stand -/
def pinsAt (fp : List Addr) (h : Heap) : List (Addr × Obj) := fp.filterMap fun b => (h.get? b).map fun o => (b, o)
theorem mem_pinsAt {fp : List Addr} {h : Heap} {b : Addr} {o : Obj} (hb : b ∈ fp) (e : h.get? b = some o) : (b, o) ∈ pinsAt fp h := List.mem_filterMap.mpr ⟨b, hb, by rw [e]; rfl⟩
theorem of_pinsAt {fp : List Addr} {h : Heap} {p : Addr × Obj} (hp : p ∈ pinsAt fp h) : p.1 ∈ fp ∧ h.get? p.1 = some p.2 := by
  obtain ⟨b, hb, e⟩ := List.mem_filterMap.mp hp
  cases q : h.get? b with
  | none => rw [q] at e; cases e
  | some o =>
    rw [q] at e
    have e' : (b, o) = p := Option.some.inj e
    subst e'
    exact ⟨hb, q⟩
theorem Inv.pinned {pins : List (Addr × Obj)} {σ : St} {H : Hp} {s : Shared} {fp : List Addr} (I : Inv X pins σ H s) (hf : ∀ b ∈ fp, FpOk X pins H b) (ho : ∀ b ∈ fp, ∃ o, s.heap.get? b = some o ∧ ∀ v, o.data ≠ .cell v) : Inv X (pins ++ pinsAt fp s.heap) σ H s :=
  I.pins_of fun p hp => (List.mem_append.mp hp).elim (fun z => I.pin p (List.mem_append_right _ z)) fun z => by
    obtain ⟨hb, e⟩ := of_pinsAt z
    obtain ⟨f0, f1, f2, _⟩ := hf p.1 hb
    obtain ⟨o, e', d⟩ := ho p.1 hb
    rw [e] at e'; cases e'
    exact ⟨e, f0, f1, f2, d⟩
theorem Inv.unpinned {pins pl : List (Addr × Obj)} {σ : St} {H : Hp} {s : Shared} (I : Inv X (pins ++ pl) σ H s) : Inv X pins σ H s := I.pins_of fun p hp => I.pin p (List.mem_append_right _ (List.mem_append_left _ hp))
theorem ps_for {iter : Expr} {body : List Stmt} {wi : TI} {g : TG} {tb : TS} {pos : Pos} (hp : PassesOwn (model X.prog X.w) X.A X.env X.xe) (hc : X.calm = true) (hi : PI X tg iter wi) (hg : PG X tg g) (hb : PSs X body tb)
    (hs : ∀ x, foldedSetIterable iter X.env x = pure x := by intro _; rfl) : PS X (.For tg iter body [] pos) (tFor wi g tb) := by
  intro pins s σ H D I h
  refine wpAny_For (thn (hi pins s σ H _ I h) fun v s1 h1 => thn h1 fun itv s2 h2 => ?_) hs
  obtain ⟨it, fp, tn, J, H2, e, I2, T, st2, f2, W, ⟨m0, w0⟩, turn⟩ := h2
  subst e
  -- what stays true of the iterator's objects through the loop
  have stat : ∀ {H' : Hp}, (∀ b ∈ fp, H' b = none) → ∀ b ∈ fp, FpOk X pins H' b := fun hn b hb => ⟨hn b hb, (f2 b hb).2⟩
  refine codeAny_forLoop_any (fun n s' => ∃ i σ' H', Inv X pins σ' H' s' ∧ tn i s'.heap ∧ (∀ b ∈ fp, H' b = none) ∧ W i n σ' H') ?_ m0 ⟨0, σ, H2, I2, st2, fun b hb => (f2 b hb).1, w0⟩
  rintro n s3 ⟨i, σ3, H3, I3, st3, fr3, w3⟩
  rcases turn i n σ3 H3 w3 with ⟨stop, qn⟩ | ⟨go, N, hN, step⟩
  · refine wpAny_passesOwn hp (thn (T.done X rfl rfl rfl hc i pins s3 σ3 H3 X.xe I3 (stat fr3) st3 stop) fun r s4 ⟨hr, I4⟩ => ?_)
    subst hr
    exact wpAny_execs_nil ⟨σ3, H3, I4, qn⟩
  · refine wpAny_passesOwn hp (thn (T.item X rfl rfl rfl hc i pins s3 σ3 H3 X.xe I3 (stat fr3) st3 go) fun r s4 ⟨u, hr, h4⟩ => ?_)
    subst hr
    refine wpAny_passesOwn hp (thn h4 fun _ s5 ⟨x, H5, I5, r5, y5, st5, fr5⟩ => ?_)
    have I5' := I5.pinned (stat fr5) (T.obj _ _ st5)
    refine wpAny_passesOwn hp (thn (hg _ s5 σ3 H5 x u _ I5' r5 (step x H5 y5)) fun _ s6 ⟨σ6, H6, I6, q6⟩ => ?_)
    refine wpAny_passesOwn hp (thn (hb _ s6 σ6 H6 _ I6 q6) fun f s7 q7 => ?_)
    have again : ∀ {σ7 : St} {H7 : Hp}, Inv X (pins ++ pinsAt fp s5.heap) σ7 H7 s7 → N σ7 H7 → ∃ m, m < n ∧ ∃ i σ' H', Inv X pins σ' H' s7 ∧ tn i s7.heap ∧ (∀ b ∈ fp, H' b = none) ∧ W i m σ' H' := fun {σ7 H7} I7 n7 => by
      obtain ⟨m', hm, w7⟩ := hN σ7 H7 n7
      refine ⟨m', hm, i + 1, σ7, H7, I7.unpinned, T.keep _ _ _ st5 fun b hb o e => (I7.pin (b, o) (List.mem_append_right _ (List.mem_append_right _ (mem_pinsAt hb e)))).1, fun b hb => ?_, w7⟩
      obtain ⟨o, e, d⟩ := T.obj _ _ st5 b hb
      exact (I7.pin (b, o) (List.mem_append_right _ (List.mem_append_right _ (mem_pinsAt hb e)))).2.1
    cases f with
    | next => obtain ⟨σ7, H7, I7, n7⟩ := q7; exact again I7 n7
    | cont => obtain ⟨σ7, H7, I7, n7⟩ := q7; exact again I7 n7
    | brk => obtain ⟨σ7, H7, I7, q7⟩ := q7; exact ⟨σ7, H7, I7.unpinned, q7⟩
    | ret v => obtain ⟨x7, σ7, H7, I7, r7, q7⟩ := q7; exact ⟨x7, σ7, H7, I7.unpinned, r7, q7⟩
end

/-! ### the forms one uses -/
/-- over a list that the body leaves as it is -/
theorem for_list {K : PySem.W.Frag} {a : Addr} {xs : List V} {g : TG} {tb : TS} {D : Ends} {σ : St} {H : Hp} (Pv : Nat → St → Hp → Prop) (h0 : Pv 0 σ H) (hl : ∀ i σ H, i ≤ xs.length → Pv i σ H → SqL K H a xs)
    (hs : ∀ i x σ H, xs[i]? = some x → Pv i σ H → g x σ H fun σ2 H2 => tb { D with nx := Pv (i + 1), ct := Pv (i + 1), bk := D.nx } σ2 H2) (hd : ∀ σ H, Pv xs.length σ H → D.nx σ H) :
    ∃ W : Nat → Nat → St → Hp → Prop, (∃ m, W 0 m σ H) ∧ ∀ i m σ H, W i m σ H →
      ((Itl K a).stop i H ∧ D.nx σ H) ∨ ((Itl K a).go i H ∧ ∃ N : St → Hp → Prop, (∀ σ' H', N σ' H' → ∃ m', m' < m ∧ W (i + 1) m' σ' H') ∧ ∀ x H', (Itl K a).yld i H x H' → g x σ H' fun σ2 H2 => tb { D with nx := N, ct := N, bk := D.nx } σ2 H2) := by
  refine ⟨fun i m σ H => m = xs.length - i ∧ i ≤ xs.length ∧ Pv i σ H, ⟨xs.length, by simp, Nat.zero_le _, h0⟩, ?_⟩
  rintro i m σ H ⟨rfl, hi, p⟩
  have q := hl i σ H hi p
  by_cases hlt : i < xs.length
  · refine .inr ⟨⟨xs, xs[i], q, by simp [hlt]⟩, Pv (i + 1), fun σ' H' p' => ⟨xs.length - (i + 1), by omega, rfl, hlt, p'⟩, fun x H' y => ?_⟩
    obtain ⟨e, y⟩ := y
    subst e
    exact hs i x σ _ (y xs q) p
  · have e : i = xs.length := by omega
    subst e
    exact .inl ⟨⟨xs, q, Nat.le_refl _⟩, hd σ H p⟩
theorem for_tup {K : PySem.W.Frag} {a : Addr} {xs : List V} {g : TG} {tb : TS} {D : Ends} {σ : St} {H : Hp} (Pv : Nat → St → Hp → Prop) (h0 : Pv 0 σ H) (hl : ∀ i σ H, i ≤ xs.length → Pv i σ H → SqT K H a xs)
    (hs : ∀ i x σ H, xs[i]? = some x → Pv i σ H → g x σ H fun σ2 H2 => tb { D with nx := Pv (i + 1), ct := Pv (i + 1), bk := D.nx } σ2 H2) (hd : ∀ σ H, Pv xs.length σ H → D.nx σ H) :
    ∃ W : Nat → Nat → St → Hp → Prop, (∃ m, W 0 m σ H) ∧ ∀ i m σ H, W i m σ H →
      ((Itt K a).stop i H ∧ D.nx σ H) ∨ ((Itt K a).go i H ∧ ∃ N : St → Hp → Prop, (∀ σ' H', N σ' H' → ∃ m', m' < m ∧ W (i + 1) m' σ' H') ∧ ∀ x H', (Itt K a).yld i H x H' → g x σ H' fun σ2 H2 => tb { D with nx := N, ct := N, bk := D.nx } σ2 H2) := by
  refine ⟨fun i m σ H => m = xs.length - i ∧ i ≤ xs.length ∧ Pv i σ H, ⟨xs.length, by simp, Nat.zero_le _, h0⟩, ?_⟩
  rintro i m σ H ⟨rfl, hi, p⟩
  have q := hl i σ H hi p
  by_cases hlt : i < xs.length
  · refine .inr ⟨⟨xs, xs[i], q, by simp [hlt]⟩, Pv (i + 1), fun σ' H' p' => ⟨xs.length - (i + 1), by omega, rfl, hlt, p'⟩, fun x H' y => ?_⟩
    obtain ⟨e, y⟩ := y
    subst e
    exact hs i x σ _ (y xs q) p
  · have e : i = xs.length := by omega
    subst e
    exact .inl ⟨⟨xs, q, Nat.le_refl _⟩, hd σ H p⟩
theorem for_range {lo : Int} {n : Nat} {g : TG} {tb : TS} {D : Ends} {σ : St} {H : Hp} (Pv : Nat → St → Hp → Prop) (h0 : Pv 0 σ H)
    (hs : ∀ i σ H, i < n → Pv i σ H → g (.int (lo + i)) σ H fun σ2 H2 => tb { D with nx := Pv (i + 1), ct := Pv (i + 1), bk := D.nx } σ2 H2) (hd : ∀ σ H, Pv n σ H → D.nx σ H) :
    ∃ W : Nat → Nat → St → Hp → Prop, (∃ m, W 0 m σ H) ∧ ∀ i m σ H, W i m σ H →
      ((Itr lo n).stop i H ∧ D.nx σ H) ∨ ((Itr lo n).go i H ∧ ∃ N : St → Hp → Prop, (∀ σ' H', N σ' H' → ∃ m', m' < m ∧ W (i + 1) m' σ' H') ∧ ∀ x H', (Itr lo n).yld i H x H' → g x σ H' fun σ2 H2 => tb { D with nx := N, ct := N, bk := D.nx } σ2 H2) := by
  refine ⟨fun i m σ H => m = n - i ∧ i ≤ n ∧ Pv i σ H, ⟨n, by simp, Nat.zero_le _, h0⟩, ?_⟩
  rintro i m σ H ⟨rfl, hi, p⟩
  by_cases hlt : i < n
  · refine .inr ⟨hlt, Pv (i + 1), fun σ' H' p' => ⟨n - (i + 1), by omega, rfl, hlt, p'⟩, fun x H' y => ?_⟩
    obtain ⟨e, y⟩ := y
    subst e y
    exact hs i σ _ hlt p
  · have e : i = n := by omega
    subst e
    exact .inl ⟨Nat.le_refl _, hd σ H p⟩
end L2

namespace L2
open PySem PySem.Spec PyProof.Rows

abbrev R2 := V → V → Hp → VK → Prop
/-- a two-place operation on values: f is binaryOp op, inplaceOp op or compareOp op -/
def OpR (X : Cx) (f : Value → Value → Sem Value) (r : R2) : Prop :=
  ∀ (pins : List (Addr × Obj)) (s : Shared) (σ : St) (H : Hp) (x y : V) (v u : Value) (Q : VK), Inv X pins σ H s → RelV x v → RelV y u → r x y H Q →
    wpAny (model X.prog X.w) X.A (f v u) (EP X pins σ Q) X.xe s
/-- a one-place operation -/
def UnR (X : Cx) (f : Value → Sem Value) (r : V → Hp → VK → Prop) : Prop :=
  ∀ (pins : List (Addr × Obj)) (s : Shared) (σ : St) (H : Hp) (x : V) (v : Value) (Q : VK), Inv X pins σ H s → RelV x v → r x H Q →
    wpAny (model X.prog X.w) X.A (f v) (EP X pins σ Q) X.xe s
/-- a call of a value that is known (a builtin, a type) with values -/
def CallR (X : Cx) (f : Value) (r : List V → Hp → VK → Prop) : Prop :=
  ∀ (pins : List (Addr × Obj)) (s : Shared) (σ : St) (H : Hp) (xs : List V) (us : List Value) (Q : VK), Inv X pins σ H s → Vals xs us → r xs H Q →
    wpAny (model X.prog X.w) X.A (call f us) (EP X pins σ Q) X.xe s
def tOp (r : R2) (ta tb : TE) : TE := fun σ H Q => ta σ H fun x H1 => tb σ H1 fun y H2 => r x y H2 Q
def tUn (r : V → Hp → VK → Prop) (ta : TE) : TE := fun σ H Q => ta σ H fun x H1 => r x H1 Q
/-- ints in, under C, and a value out -/
def rI (C : Int → Int → Prop) (g : Int → Int → V) : R2 := fun x y H Q => ∃ i j, x = .int i ∧ y = .int j ∧ C i j ∧ Q (g i j) H
def rI0 (g : Int → Int → V) : R2 := fun x y H Q => ∃ i j, x = .int i ∧ y = .int j ∧ Q (g i j) H
def rU (g : Int → V) : V → Hp → VK → Prop := fun x H Q => ∃ i, x = .int i ∧ Q (g i) H

section
variable {X : Cx} {a b c : Expr} {ta tb tc : TE} {pos : Pos}

theorem binT (ha : PE X a ta) (hb : PE X b tb) {pins : List (Addr × Obj)} {s : Shared} {σ : St} {H : Hp} {R : V → V → Hp → Prop} (I : Inv X pins σ H s)
    (h : ta σ H fun x H1 => tb σ H1 fun y H2 => R x y H2) {Q : Value → Shared → Prop} {f : Value → Value → Sem Value}
    (hf : ∀ v u s2 x y H2, Inv X pins σ H2 s2 → RelV x v → RelV y u → R x y H2 → wpAny (model X.prog X.w) X.A (f v u) Q X.xe s2) :
    wpAny (model X.prog X.w) X.A (eval a X.env) (fun v s₁ => wpAny (model X.prog X.w) X.A (eval b X.env) (fun u s₂ => wpAny (model X.prog X.w) X.A (f v u) Q X.xe s₂) X.xe s₁) X.xe s := by
  refine thn (ha pins s σ H _ I h) fun v s1 ⟨x, H1, I1, r1, q1⟩ => ?_
  refine thn (hb pins s1 σ H1 _ I1 q1) fun u s2 ⟨y, H2, I2, r2, q2⟩ => ?_
  exact hf v u s2 x y H2 I2 r1 r2 q2

theorem pe_op {op : Operator} {r : R2} (ho : OpR X (binaryOp op) r) (ha : PE X a ta) (hb : PE X b tb) : PE X (.BinOp a op b pos) (tOp r ta tb) := by
  intro pins s σ H Q I h
  exact wpAny_BinOp (binT ha hb I h fun v u s2 x y H2 I2 rx ry q => ho pins s2 σ H2 x y v u Q I2 rx ry q)
theorem pe_un {op : UnaryOp} {r : V → Hp → VK → Prop} (ho : UnR X (unaryOp op) r) (ha : PE X a ta) : PE X (.UnaryOp op a pos) (tUn r ta) := by
  intro pins s σ H Q I h
  exact UnaryOp_ (thn (ha pins s σ H _ I h) fun v s1 ⟨x, H1, I1, r1, q1⟩ => ho pins s1 σ H1 x v Q I1 r1 q1)
/-! ### ints -/
theorem opI {f : Value → Value → Sem Value} {C : Int → Int → Prop} {g : Int → Int → Int}
    (rule : ∀ (i j : Int) (t u : Tok) (s : Shared) (Q : Value → Shared → Prop) (E : Value → Shared → Prop), C i j → Q (.int (g i j) s.toks) { s with toks := s.toks + 1 } → wpAny (model X.prog X.w) X.A (f (.int i t) (.int j u)) Q E s) :
    OpR X f (rI C fun i j => .int (g i j)) := by
  intro pins s σ H x y v u Q I rx ry h
  obtain ⟨i, j, rfl, rfl, hc, q⟩ := h
  obtain ⟨t, rfl⟩ := rx
  obtain ⟨t', rfl⟩ := ry
  exact rule i j t t' s _ _ hc ⟨.int (g i j), H, I.tok _, ⟨_, rfl⟩, q⟩
theorem opI0 {f : Value → Value → Sem Value} {g : Int → Int → Int}
    (rule : ∀ (i j : Int) (t u : Tok) (s : Shared) (Q : Value → Shared → Prop) (E : Value → Shared → Prop), Q (.int (g i j) s.toks) { s with toks := s.toks + 1 } → wpAny (model X.prog X.w) X.A (f (.int i t) (.int j u)) Q E s) :
    OpR X f (rI0 fun i j => .int (g i j)) := by
  intro pins s σ H x y v u Q I rx ry h
  obtain ⟨i, j, rfl, rfl, q⟩ := h
  obtain ⟨t, rfl⟩ := rx
  obtain ⟨t', rfl⟩ := ry
  exact rule i j t t' s _ _ ⟨.int (g i j), H, I.tok _, ⟨_, rfl⟩, q⟩
theorem opB0 {f : Value → Value → Sem Value} {g : Int → Int → Bool}
    (rule : ∀ (i j : Int) (t u : Tok) (s : Shared) (Q : Value → Shared → Prop) (E : Value → Shared → Prop), Q (.bool (g i j)) s → wpAny (model X.prog X.w) X.A (f (.int i t) (.int j u)) Q E s) :
    OpR X f (rI0 fun i j => .bl (g i j)) := by
  intro pins s σ H x y v u Q I rx ry h
  obtain ⟨i, j, rfl, rfl, q⟩ := h
  obtain ⟨t, rfl⟩ := rx
  obtain ⟨t', rfl⟩ := ry
  exact rule i j t t' s _ _ ⟨.bl (g i j), H, I, rfl, q⟩

def CDiv (i j : Int) : Prop := 0 < j ∧ j < 1073741824
def CPow (i j : Int) : Prop := 0 ≤ j ∧ j ≤ 1000000 ∧ i.natAbs < 2 ^ 64
def CMul (i j : Int) : Prop := (-(2 ^ 64) < i ∧ i < 2 ^ 64) ∨ (-(2 ^ 64) < j ∧ j < 2 ^ 64)
theorem CMul.ok {i j : Int} (h : CMul i j) : IntMulOk i j := by
  rcases h with ⟨h1, h2⟩ | ⟨h1, h2⟩
  · exact .of_left (intBits_le_64 h1 h2)
  · exact .of_right (intBits_le_64 h1 h2)
theorem op_add : OpR X (binaryOp .Add) (rI0 fun i j => .int (i + j)) := opI0 fun _ _ _ _ _ _ _ q => add_int q
theorem op_sub : OpR X (binaryOp .Sub) (rI0 fun i j => .int (i - j)) := opI0 fun _ _ _ _ _ _ _ q => sub_int q
theorem op_mul : OpR X (binaryOp .Mult) (rI CMul fun i j => .int (i * j)) := opI fun _ _ _ _ _ _ _ hc q => mul_int q hc.ok
/-- // by a positive divisor -/
theorem op_fdiv : OpR X (binaryOp .FloorDiv) (rI CDiv fun i j => .int (i / j)) := opI fun i j _ _ _ _ _ hc q => by
  have h1 : (0 : Int) < j := hc.1
  have h2 : j < 1073741824 := hc.2
  exact floordiv_int (by omega) (by rw [Int.fdiv_eq_ediv_of_nonneg i (by omega)]; exact q) (.inl (PyProof.noPylong_small (by omega)))
/-- % by a positive divisor of any size -/
theorem op_mod : OpR X (binaryOp .Mod) (rI (fun _ j => 0 < j) fun i j => .int (i % j)) := opI fun i j _ _ _ _ _ hc q => by
  have h1 : (0 : Int) < j := hc
  exact mod_int' (by omega) (by rw [Int.fmod_eq_emod_of_nonneg i (by omega)]; exact q)
theorem op_pow : OpR X (binaryOp .Pow) (rI CPow fun i j => .int (i ^ j.toNat)) := opI fun _ _ _ _ _ _ _ hc q => pow_int_small hc.1 hc.2.1 hc.2.2 q
theorem unI {f : Value → Sem Value} {g : Int → Int}
    (rule : ∀ (i : Int) (t : Tok) (s : Shared) (Q : Value → Shared → Prop) (E : Value → Shared → Prop), Q (.int (g i) s.toks) { s with toks := s.toks + 1 } → wpAny (model X.prog X.w) X.A (f (.int i t)) Q E s) :
    UnR X f (rU fun i => .int (g i)) := by
  intro pins s σ H x v Q I rx h
  obtain ⟨i, rfl, q⟩ := h
  obtain ⟨t, rfl⟩ := rx
  exact rule i t s _ _ ⟨.int (g i), H, I.tok _, ⟨_, rfl⟩, q⟩
theorem un_neg : UnR X (unaryOp .USub) (rU fun i => .int (-i)) := unI fun _ _ _ _ _ q => neg_int q
/-! ### bools among ints: n += (a < b) -/
end

/-! ### comparisons -/
/-- the scalars that == tells apart as data does -/
def scal : V → V → Bool
  | .non, .non => true | .non, .int _ => true | .int _, .non => true | .non, .bl _ => true | .bl _, .non => true | .non, .str _ => true | .str _, .non => true
  | .int _, .int _ => true | .bl _, .bl _ => true | .str _, .str _ => true | .byt _, .byt _ => true
  | .int _, .str _ => true | .str _, .int _ => true | .bl _, .str _ => true | .str _, .bl _ => true
  | _, _ => false
def rEq : R2 := fun x y H Q => scal x y = true ∧ Q (.bl (decide (x = y))) H
def rNe : R2 := fun x y H Q => scal x y = true ∧ Q (.bl (!decide (x = y))) H

theorem dec_int {i j : Int} : decide (V.int i = V.int j) = (i == j) := by
  rw [Bool.eq_iff_iff]
  simp
theorem dec_bl {i j : Bool} : decide (V.bl i = V.bl j) = (i == j) := by
  rw [Bool.eq_iff_iff]
  simp
theorem dec_str {i j : Str} : decide (V.str i = V.str j) = (i == j) := by
  rw [Bool.eq_iff_iff]
  simp
theorem dec_byt {i j : Array UInt8} : decide (V.byt i = V.byt j) = (i.toList == j.toList) := by
  rw [Bool.eq_iff_iff]
  cases i
  cases j
  simp

section
variable {X : Cx} {a b c : Expr} {ta tb tc : TE} {pos : Pos}
theorem fin_bl {pins : List (Addr × Obj)} {σ : St} {H : Hp} {s : Shared} {Q : VK} {k k' : Bool} (I : Inv X pins σ H s) (q : Q (.bl k) H) (e : k = k') : EP X pins σ Q (.bool k') s := by
  subst e
  exact ⟨.bl k, H, I, rfl, q⟩
theorem op_eq : OpR X (compareOp .Eq) rEq := by
  intro pins s σ H x y v u Q I rx ry h
  obtain ⟨hs, q⟩ := h
  cases x with
  | non =>
    cases rx
    cases y with
    | non => cases ry; exact PySem.EqNone.eq_none_none (fin_bl I q (by simp))
    | bl j => cases ry; exact PySem.EqNone.eq_none_bool (fin_bl I q (by simp))
    | int j => obtain ⟨t', rfl⟩ := ry; exact PySem.EqNone.eq_none_int (fin_bl I q (by simp))
    | str j => obtain ⟨t', rfl⟩ := ry; exact PySem.EqNone.eq_none_str (fin_bl I q (by simp))
    | _ => exact absurd (show false = true from hs) Bool.false_ne_true
  | bl i =>
    cases rx
    cases y with
    | non => cases ry; exact PySem.EqNone.eq_bool_none (fin_bl I q (by simp))
    | bl j => cases ry; exact eq_bool (fin_bl I q dec_bl)
    | str j => obtain ⟨t', rfl⟩ := ry; exact PySem.EqMixed.eq_bool_str (fin_bl I q (by simp))
    | _ => exact absurd (show false = true from hs) Bool.false_ne_true
  | int i =>
    obtain ⟨t, rfl⟩ := rx
    cases y with
    | non => cases ry; exact PySem.EqNone.eq_int_none (fin_bl I q (by simp))
    | int j => obtain ⟨t', rfl⟩ := ry; exact eq_int (fin_bl I q dec_int)
    | str j => obtain ⟨t', rfl⟩ := ry; exact PySem.EqMixed.eq_int_str (fin_bl I q (by simp))
    | _ => exact absurd (show false = true from hs) Bool.false_ne_true
  | str i =>
    obtain ⟨t, rfl⟩ := rx
    cases y with
    | non => cases ry; exact PySem.EqNone.eq_str_none (fin_bl I q (by simp))
    | bl j => cases ry; exact PySem.EqMixed.eq_str_bool (fin_bl I q (by simp))
    | int j => obtain ⟨t', rfl⟩ := ry; exact PySem.EqMixed.eq_str_int (fin_bl I q (by simp))
    | str j => obtain ⟨t', rfl⟩ := ry; exact eq_str (fin_bl I q dec_str)
    | _ => exact absurd (show false = true from hs) Bool.false_ne_true
  | byt i =>
    obtain ⟨t, rfl⟩ := rx
    cases y with
    | byt j => obtain ⟨t', rfl⟩ := ry; exact PySem.W.eq_bytes (fin_bl I q dec_byt)
    | _ => exact absurd (show false = true from hs) Bool.false_ne_true
  | _ => cases y <;> exact absurd (show false = true from hs) Bool.false_ne_true
theorem op_ne : OpR X (compareOp .NotEq) rNe := by
  intro pins s σ H x y v u Q I rx ry h
  obtain ⟨hs, q⟩ := h
  cases x with
  | non =>
    cases rx
    cases y with
    | non => cases ry; exact PySem.EqNone.ne_none_none (fin_bl I q (by simp))
    | bl j => cases ry; exact PySem.EqNone.ne_none_bool (fin_bl I q (by simp))
    | int j => obtain ⟨t', rfl⟩ := ry; exact PySem.EqNone.ne_none_int (fin_bl I q (by simp))
    | str j => obtain ⟨t', rfl⟩ := ry; exact PySem.EqNone.ne_none_str (fin_bl I q (by simp))
    | _ => exact absurd (show false = true from hs) Bool.false_ne_true
  | bl i =>
    cases rx
    cases y with
    | non => cases ry; exact PySem.EqNone.ne_bool_none (fin_bl I q (by simp))
    | bl j => cases ry; exact ne_bool (fin_bl I q (congrArg not dec_bl))
    | str j => obtain ⟨t', rfl⟩ := ry; exact PySem.EqMixed.ne_bool_str (fin_bl I q (by simp))
    | _ => exact absurd (show false = true from hs) Bool.false_ne_true
  | int i =>
    obtain ⟨t, rfl⟩ := rx
    cases y with
    | non => cases ry; exact PySem.EqNone.ne_int_none (fin_bl I q (by simp))
    | int j => obtain ⟨t', rfl⟩ := ry; exact ne_int (fin_bl I q (congrArg not dec_int))
    | str j => obtain ⟨t', rfl⟩ := ry; exact PySem.EqMixed.ne_int_str (fin_bl I q (by simp))
    | _ => exact absurd (show false = true from hs) Bool.false_ne_true
  | str i =>
    obtain ⟨t, rfl⟩ := rx
    cases y with
    | non => cases ry; exact PySem.EqNone.ne_str_none (fin_bl I q (by simp))
    | bl j => cases ry; exact PySem.EqMixed.ne_str_bool (fin_bl I q (by simp))
    | int j => obtain ⟨t', rfl⟩ := ry; exact PySem.EqMixed.ne_str_int (fin_bl I q (by simp))
    | str j => obtain ⟨t', rfl⟩ := ry; exact ne_str (fin_bl I q (congrArg not dec_str))
    | _ => exact absurd (show false = true from hs) Bool.false_ne_true
  | byt i =>
    obtain ⟨t, rfl⟩ := rx
    cases y with
    | byt j => obtain ⟨t', rfl⟩ := ry; exact PySem.W.ne_bytes (fin_bl I q (congrArg not dec_byt))
    | _ => exact absurd (show false = true from hs) Bool.false_ne_true
  | _ => cases y <;> exact absurd (show false = true from hs) Bool.false_ne_true

theorem op_lt : OpR X (compareOp .Lt) (rI0 fun i j => .bl (decide (i < j))) := opB0 fun _ _ _ _ _ _ _ q => lt_int q
theorem op_gt : OpR X (compareOp .Gt) (rI0 fun i j => .bl (decide (j < i))) := opB0 fun _ _ _ _ _ _ _ q => gt_int q
/-- two rules for one operation: by cases -/
theorem OpR.or {f : Value → Value → Sem Value} {r r' : R2} (h : OpR X f r) (h' : OpR X f r') : OpR X f (fun x y H Q => r x y H Q ∨ r' x y H Q) := by
  intro pins s σ H x y v u Q I rx ry q
  rcases q with q | q
  · exact h pins s σ H x y v u Q I rx ry q
  · exact h' pins s σ H x y v u Q I rx ry q

theorem nomark (b : Expr) {op : CmpOp} (h : op ≠ .In := by decide) (h2 : op ≠ .NotIn := by decide) : behindInMarks op b = false := by
  have e1 : (op == CmpOp.In) = false := by cases op <;> first | rfl | exact absurd rfl h
  have e2 : (op == CmpOp.NotIn) = false := by cases op <;> first | rfl | exact absurd rfl h2
  cases b <;> simp [behindInMarks, e1, e2]
/-- a comparison as a value; hm: nomark b, or (for in, not in) by with_unfolding_all rfl -/
theorem pe_cmpR {op : CmpOp} {r : R2} (ho : OpR X (compareOp op) r) (ha : PE X a ta) (hb : PE X b tb) (hm : behindInMarks op b = false) : PE X (.Compare a [op] [b] pos) (tOp r ta tb) := by
  intro pins s σ H Q I h
  exact wpAny_Compare1 (binT ha hb I h fun v u s2 x y H2 I2 rx ry q => ho pins s2 σ H2 x y v u Q I2 rx ry q) hm
/-- a reading of a value as a test -/
def tTest (t : TE) : TT := fun σ H Q => t σ H fun x H' => ∃ k, x = .bl k ∧ Q k H'
theorem pt_cmpR {op : CmpOp} {r : R2} (ho : OpR X (compareOp op) r) (ha : PE X a ta) (hb : PE X b tb) (hm : behindInMarks op b = false) : PT X (.Compare a [op] [b] pos) (tTest (tOp r ta tb)) := by
  intro pins s σ H Q I h
  refine wpAny_isTrue_Compare1 (thn (ha pins s σ H _ I h) fun v s1 ⟨x, H1, I1, r1, q1⟩ => thn (hb pins s1 σ H1 _ I1 q1) fun u s2 ⟨y, H2, I2, r2, q2⟩ =>
    thn (ho pins s2 σ H2 x y v u _ I2 r1 r2 q2) fun c s3 ⟨z, H3, I3, r3, k, e, q3⟩ => ?_) hm
  subst e
  cases r3
  exact wpAny_truthy_bool ⟨H3, I3, q3⟩
/-! ### truth -/
theorem line63 : (sizeLine : Nat) < 2 ^ 63 := by rw [sizeLine_eq]; decide
/-! ### strs and bytes -/
/-! ### scalar builtins, by CallR -/
theorem vals1 {x : V} {us : List Value} (r : Vals [x] us) : ∃ u, us = [u] ∧ RelV x u := by
  cases r with
  | cons r1 r2 => cases r2; exact ⟨_, rfl, r1⟩
theorem vals2 {x y : V} {us : List Value} (r : Vals [x, y] us) : ∃ u w', us = [u, w'] ∧ RelV x u ∧ RelV y w' := by
  cases r with
  | cons r1 r2 =>
    cases r2 with
    | cons r3 r4 => cases r4; exact ⟨_, _, rfl, r1, r3⟩
theorem call_min2 (hc : X.calm = true) : CallR X (.builtin "min") (fun xs H Q => ∃ i j, xs = [.int i, .int j] ∧ Q (.int (if j < i then j else i)) H) := by
  intro pins s σ H xs us Q I r h
  obtain ⟨i, j, rfl, q⟩ := h
  obtain ⟨u, w', rfl, ⟨t, rfl⟩, ⟨t', rfl⟩⟩ := vals2 r
  refine min_two_ints (I.ok.hd hc) fun h' tk k => ⟨_, H, I.kept k, ?_, q⟩
  by_cases hj : j < i
  · rw [if_pos hj, if_pos hj]; exact ⟨_, rfl⟩
  · rw [if_neg hj, if_neg hj]; exact ⟨_, rfl⟩
end
end L2

namespace L2
open PySem PySem.Spec PyProof.Rows

/-! ### an instance, its attributes a map -/
structure ObjM (h : Heap) (x dx C : Addr) (mA : Str → Option Value) : Prop where
  obj : h.get? x = some (PySem.W.instObj C dx)
  ns : h.Ns1 dx mA
  ne : dx ≠ x

theorem lookIn_ns {h : Heap} {dx : Addr} {mA : Str → Option Value} (n : h.Ns1 dx mA) : ∃ od, h.get? dx = some od ∧ ∀ name, PySem.W.lookIn name od = some (mA name) := by
  obtain ⟨o, es, ep, ho, hd, hk, _, hm⟩ := n
  refine ⟨o, ho, fun name => ?_⟩
  have e := hm name
  unfold nsFind findBy at e
  rw [← Array.find?_toList] at e
  unfold PySem.W.lookIn
  rw [hd]
  dsimp only
  split
  · rename_i y q
    rw [q] at e
    exact congrArg some e
  · rename_i q
    rw [q] at e
    have a : es.toList.any (·.refKey) = false := by
      rw [List.any_eq_false]
      intro y hy
      obtain ⟨z, t, hkey⟩ := hk y (Array.mem_toList_iff.mp hy)
      simp [DictEntry.refKey, hkey]
    have a' : ¬ es.toList.any (·.refKey) = true := by rw [a]; exact Bool.false_ne_true
    rw [if_neg a']
    exact congrArg some e

theorem ObjM.look {h : Heap} {x dx C : Addr} {mA : Str → Option Value} (I : ObjM h x dx C mA) : ∃ od, PySem.W.InstAt h x (PySem.W.instObj C dx) C (some od) ∧ ∀ name, PySem.W.lookIn name od = some (mA name) :=
  let ⟨od, ho, hl⟩ := lookIn_ns I.ns
  ⟨od, ⟨I.obj, rfl, rfl, ho⟩, hl⟩

section
variable {prog : Program} {w : World} {A : Around} {E : Value → Shared → Prop} {s : Shared} {K : PySem.W.Frag} {x dx C f : Addr} {mA : Str → Option Value} {name : Str} {v : Value}

end

/-! ### the attributes as a list of pairs -/
theorem RelO.none_of {o : Option Value} (r : RelO none o) : o = none := by
  cases o with
  | none => rfl
  | some u => exact (show False from r).elim
section
variable {P : Program} {w : World} {H H' : Hp} {h h' : Heap} {a C dx : Addr} {fs fs' : List (Str × V)}
theorem ins_get (hok : HOk P w H h) (e : H a = some (.ins C dx fs)) : ∃ mA, ObjM h a dx C mA ∧ (∀ f, RelO (fs.lookup f) (mA f)) ∧ PySem.Within mA (fs.map (·.1)) ∧ fs.length ≤ 1000 ∧ H dx = some (.own a) := by
  obtain ⟨d, z, ne, ob, mA, n, r, q⟩ := (show ObjOk P w H h a (.ins C dx fs) from hok a _ e)
  exact ⟨mA, ⟨ob, n, ne⟩, r, q, z, d⟩
end

/-! ### what of the text a class must have -/
structure Cls (K : PySem.W.Frag) (C : Addr) : Prop where
  pg : PySem.W.plainGet K C Str.empty = true
  hd : PySem.W.hasDictIn K C = true
  po : PySem.W.plainOver K C = true
  sa : PySem.W.findIn K (.ref C) "__setattr__" = some (some (.builtin "object.__setattr__"))
theorem Cls.get {K : PySem.W.Frag} {C : Addr} (c : Cls K C) (f : Str) : PySem.W.plainGet K C f = true := c.pg
/-- a constant of the class -/
structure Con (K : PySem.W.Frag) (C : Addr) (f : Str) (v : V) (u : Value) : Prop where
  at_ : PySem.W.findIn K (.ref C) f = some (some u)
  rel : RelV v u
  get : PySem.W.specialIn K u "__get__" = some none
  cp : PySem.W.copiedNames.contains f = false
/-- a method: a plain def of the class or of one above it -/
structure Meth (K : PySem.W.Frag) (C : Addr) (m : Str) (f : Addr) : Prop where
  at_ : PySem.W.findIn K (.ref C) m = some (some (.ref f))
  fn : PySem.W.isFn K (.ref f) = true
  kp : PySem.W.keepIn K (.ref f) = true

section
variable {X : Cx} {pins : List (Addr × Obj)} {σ : St} {H : Hp} {s : Shared} {a C dx : Addr} {fs : List (Str × V)} {f : Str} {v : V} {A : Around} {E : Value → Shared → Prop}

/-- a new instance, tracked, without attributes -/
theorem Inv.made (I : Inv X pins σ H s) : Inv X pins σ (upd (upd H s.heap.objs.size (.own (s.heap.objs.size + 1))) (s.heap.objs.size + 1) (.ins C s.heap.objs.size []))
    { s with heap := (s.heap.push PySem.W.emptyDict).push (PySem.W.instObj C s.heap.objs.size) } := by
  have e1 : (s.heap.push PySem.W.emptyDict).get? s.heap.objs.size = some PySem.W.emptyDict := Heap.get?_push_size s.heap rfl
  have e2 : ((s.heap.push PySem.W.emptyDict).push (PySem.W.instObj C s.heap.objs.size)).get? (s.heap.objs.size + 1) = some (PySem.W.instObj C s.heap.objs.size) := by
    have := Heap.get?_push_size (s.heap.push PySem.W.emptyDict) (o := PySem.W.instObj C s.heap.objs.size) rfl
    rwa [Heap.size_push] at this
  have e3 : (s.heap.push PySem.W.emptyDict).Ns s.heap.objs.size (fun _ => none) := ⟨PySem.W.emptyDict, #[], _, e1, rfl, (fun e he => absurd he (by simp)), fun _ => rfl⟩
  have I1 := I.laid (a := s.heap.objs.size) (o := .own (s.heap.objs.size + 1)) (h' := s.heap.push PySem.W.emptyDict) (t' := s.toks) (fun b u q => Heap.get?_push_of_some _ q) (Nat.le_refl _) ⟨_, e1⟩
  refine I1.laid (a := s.heap.objs.size + 1) (o := .ins C s.heap.objs.size []) (t' := s.toks) (fun b u q => Heap.get?_push_of_some _ q) (Nat.le_of_eq (Heap.size_push _ _)) ?_
  have ne : s.heap.objs.size ≠ s.heap.objs.size + 1 := Nat.ne_of_lt (Nat.lt_succ_self _)
  refine ⟨by rw [upd_ne ne, upd_same], Nat.zero_le _, ne, e2, fun _ => none, (Heap.Ns1.of_empty e3).at fun o q => Heap.get?_push_of_some _ q, fun _ => True.intro, fun y hy => absurd rfl hy⟩

end

/-! ### readings and rules -/
section
variable {X : Cx} {o e value : Expr} {f : Str} {pos pos' tpos : Pos} {ta tv : TE}
end

/-! ### isinstance -/
section
variable {X : Cx} {pins : List (Addr × Obj)} {σ : St} {H : Hp} {s : Shared} {A : Around} {E : Value → Shared → Prop} {Q : Value → Shared → Prop} {c : Value} {b : Bool}
/-- the type of a value, as the fragment's deciders take it; for an instance its class -/
inductive TyOf (K : PySem.W.Frag) (H : Hp) : V → Value → Prop where
  | non : TyOf K H .non (.type "NoneType")
  | bl (x : Bool) : TyOf K H (.bl x) (.type "bool")
  | int (i : Int) : TyOf K H (.int i) (.type "int")
  | str (x : Str) : TyOf K H (.str x) (.type "str")
  | flt (x : UInt64) : TyOf K H (.flt x) (.type "float")
  | lst {a : Addr} {xs : List V} (e : H a = some (.lst xs)) : TyOf K H (.ref a) (.type "list")
  | frz {a : Addr} {o : Obj} {xs : List V} (e : H a = some (.frz o (.lst xs))) : TyOf K H (.ref a) (.type "list")
  | tup {a : Addr} {xs : List V} (e : H a = some (.tup xs)) : TyOf K H (.ref a) (.type "tuple")
  | dK {a : Addr} {kvs : List (Key × V)} (e : H a = some (.dK kvs)) : TyOf K H (.ref a) (.type "dict")
  | dT {a : Addr} {kvs : List (List Key × V)} (e : H a = some (.dT kvs)) : TyOf K H (.ref a) (.type "dict")
  | ins {a C dx : Addr} {fs : List (Str × V)} (e : H a = some (.ins C dx fs)) (cl : Cls K C) (ha : PySem.W.findIn K (.ref C) "__class__" = some (some (.builtin "object.__class__")))
      (hn : PySem.W.specialIn K (.builtin "object.__class__") "__get__" = some (some (.builtin "getset_descriptor.__get__"))) (htk : PySem.W.takesIn K (.builtin "object.__class__") = some true)
      (hm : PySem.W.mroIn K C (.type "object") = some true) : TyOf K H (.ref a) (.ref C)
/-- isinstance(x, c) for one class c, a built-in or an own one: kitOne's answer -/
theorem isinst_ok {x : V} {u t : Value} (I : Inv X pins σ H s) (rx : RelV x u) (ty : TyOf X.K H x t) (e : PySem.W.kitOne X.K t c = some b) (h : ∀ tk, Q (.bool b) { s with toks := tk }) :
    wpAny (model X.prog X.w) A (call (.builtin "isinstance") [u, c]) Q E s := by
  cases ty with
  | non => cases (show u = Value.none from rx); exact PySem.W.kia_one PySem.W.kitx_none I.kIn True.intro e (fun z => nomatch z) h
  | bl y => cases (show u = Value.bool y from rx); exact PySem.W.kia_one PySem.W.kitx_bool I.kIn True.intro e (fun z => nomatch z) h
  | int i => obtain ⟨t, q⟩ := (show ∃ t, u = Value.int i t from rx); cases q; exact PySem.W.kia_one PySem.W.kitx_int I.kIn True.intro e (fun z => nomatch z) h
  | str y => obtain ⟨t, q⟩ := (show ∃ t, u = Value.str y t from rx); cases q; exact PySem.W.kia_one PySem.W.kitx_str I.kIn True.intro e (fun z => nomatch z) h
  | flt y => obtain ⟨t, q⟩ := (show ∃ t, u = Value.float y t from rx); cases q; exact PySem.W.kia_one PySem.W.kitx_float I.kIn True.intro e (fun z => nomatch z) h
  | @lst a xs ea =>
    cases (show u = Value.ref a from rx)
    obtain ⟨_, _, n, _, h1⟩ := (show ObjOk X.prog X.w H s.heap a (.lst xs) from I.hok a _ ea)
    exact PySem.W.kia_one PySem.W.kitx_list I.kIn ⟨_, h1, rfl⟩ e (fun z => nomatch z) h
  | @frz a ob xs ea =>
    cases (show u = Value.ref a from rx)
    obtain ⟨_, _, _, n, _, h1⟩ := (show ObjOk X.prog X.w H s.heap a (.frz ob (.lst xs)) from I.hok a _ ea)
    exact PySem.W.kia_one PySem.W.kitx_list I.kIn ⟨_, h1, rfl⟩ e (fun z => nomatch z) h
  | @tup a xs ea =>
    cases (show u = Value.ref a from rx)
    obtain ⟨_, _, _, p⟩ := (show ObjOk X.prog X.w H s.heap a (.tup xs) from I.hok a _ ea)
    obtain ⟨o, h1, h2, _⟩ := p
    exact PySem.W.kia_one PySem.W.kitx_tuple I.kIn ⟨o, h1, h2⟩ e (fun z => nomatch z) h
  | @dK a kvs ea =>
    cases (show u = Value.ref a from rx)
    obtain ⟨_, _, vs, _, p⟩ := (show ObjOk X.prog X.w H s.heap a (.dK kvs) from I.hok a _ ea)
    obtain ⟨o, es, ep, h1, h2, _⟩ := p
    exact PySem.W.kia_one PySem.W.kitx_dict I.kIn ⟨o, h1, h2.1⟩ e (fun z => nomatch z) h
  | @dT a kvs ea =>
    cases (show u = Value.ref a from rx)
    obtain ⟨_, _, xs, _, o, es, ep, h1, h2, _⟩ := (show ObjOk X.prog X.w H s.heap a (.dT kvs) from I.hok a _ ea)
    exact PySem.W.kia_one PySem.W.kitx_dict I.kIn ⟨o, h1, h2.1⟩ e (fun z => nomatch z) h
  | @ins a C dx fs ea cl ha hn htk hm =>
    cases (show u = Value.ref a from rx)
    obtain ⟨mA, O, _⟩ := ins_get I.hok ea
    obtain ⟨od, J, _⟩ := O.look
    exact PySem.W.kia_one (PySem.W.kitx_own (cl.get _) cl.hd ha hn htk hm) I.kIn J e (fun z => nomatch z) h
end
end L2

namespace L2
open PySem PySem.Spec PyProof.Rows

/-! ### room -/
structure Room (k : Nat) (A : Around) : Prop where
  hd : A.handled = none
  dp : A.depth + 3 * k + 5 < recursionLimit
  un : A.units + 16 * k + 200 < cLine
theorem Room.mono {j k : Nat} {A : Around} (r : Room k A) (h : j ≤ k) : Room j A := ⟨r.hd, by have := r.dp; omega, by have := r.un; omega⟩
theorem Room.deeper {k : Nat} {A : Around} (r : Room (k + 1) A) (env : Env) : Room k (A.deeper env) :=
  ⟨r.hd, by have := r.dp; show A.depth + 1 + 3 * k + 5 < _; omega, by have := r.un; show A.units + 3 + 16 * k + 200 < _; omega⟩
theorem Room.in1 {k : Nat} {A : Around} (r : Room (k + 1) A) : Room k A.in1 :=
  ⟨r.hd, by have := r.dp; show A.depth + 3 * k + 5 < _; omega, by have := r.un; show A.units + 1 + 16 * k + 200 < _; omega⟩
theorem make_depth {A : Around} {C : Addr} {us : List Value} {kw : List (Str × Value)} : (A.under (.builtin "type.__call__" ⟨.ref C :: us, kw⟩)).depth = A.depth + 1 := by
  first | rfl | simp [Around.under, Code.weight, Code.isCreation, Code.isGuard, Code.isCaller, Code.frames, Code.isFrame, guardIds]
theorem make_units {A : Around} {C : Addr} {us : List Value} {kw : List (Str × Value)} : (A.under (.builtin "type.__call__" ⟨.ref C :: us, kw⟩)).units = A.units + 1 := by
  first | rfl | simp [Around.under, Code.cUnits, Code.frames, Code.isFrame]
theorem Room.make {k : Nat} {A : Around} (r : Room (k + 1) A) (C : Addr) (us : List Value) (kw : List (Str × Value)) : Room k (A.under (.builtin "type.__call__" ⟨.ref C :: us, kw⟩)) :=
  ⟨r.hd, by have := r.dp; rw [make_depth]; omega, by have := r.un; rw [make_units]; omega⟩
theorem Room.depth {k : Nat} {A : Around} (r : Room k A) : A.depth < recursionLimit := by have := r.dp; omega
theorem Room.units {k : Nat} {A : Around} (r : Room k A) : A.units + 64 < cLine := by have := r.un; omega
theorem Room.units0 {k : Nat} {A : Around} (r : Room k A) : A.units < cLine := by have := r.un; omega

/-! ### argument lists and displays -/
def tNil : TA := fun _ H Q => Q [] H
def tCons (ta : TE) (tr : TA) : TA := fun σ H Q => ta σ H fun x H1 => tr σ H1 fun xs H2 => Q (x :: xs) H2
section
variable {X : Cx} {e : Expr} {es : List Expr} {te : TE} {t : TA} {pos : Pos}
theorem pa_nil : PA X [] tNil := fun _ _ _ _ H Q I h => Calls.spliced_nil ⟨[], H, I, .nil, h⟩
theorem pa_cons (ha : PE X e te) (hr : PA X es t) (hs : starEach (e :: es) X.env = (false, eval e X.env) :: starEach es X.env := by rfl) : PA X (e :: es) (tCons te t) := by
  intro pos pins s σ H Q I h
  rw [hs]
  show wpAny _ _ (spliced ((false, eval e X.env) :: backTo pos (starEach es X.env))) _ _ s
  refine Calls.spliced_cons (thn (ha pins s σ H _ I h) fun u s1 ⟨x, H1, I1, r1, q1⟩ => ?_)
  exact thn (hr pos pins s1 σ H1 _ I1 q1) fun us s2 ⟨xs, H2, I2, r2, q2⟩ => ⟨x :: xs, H2, I2, .cons r1 r2, q2⟩

/-- a tuple, a list of written items -/
def tTup (t : TA) : TE := fun σ H Q => t σ H fun xs H1 => xs.length ≤ sizeLine ∧ ∀ p, H1 p = none → Q (.ref p) (upd H1 p (.tup xs))
def tLst (t : TA) : TE := fun σ H Q => t σ H fun xs H1 => xs.length ≤ sizeLine ∧ ∀ p, H1 p = none → Q (.ref p) (upd H1 p (.lst xs))
theorem pe_tup {x1} (h : PA X es t) : PE X (.Tuple es x1 pos) (tTup t) := by
  intro pins s σ H Q I hq
  refine wpAny_Tuple_spliced (thn (h pos pins s σ H _ I hq) fun us s1 ⟨xs, H1, I1, r, z, q⟩ => ⟨by rw [← r.length]; exact z, ?_⟩)
  have hf : H1 s1.heap.objs.size = none := I1.hok.fresh (Nat.le_refl _)
  refine ⟨.ref s1.heap.objs.size, upd H1 s1.heap.objs.size (.tup xs), I1.laid (t' := s1.toks) (fun b u e => Heap.get?_push_of_some _ e) (Nat.le_refl _) ?_, rfl, q _ hf⟩
  exact ⟨z, us, r, ⟨_, Heap.get?_push_size _ rfl, rfl, rfl, _, rfl⟩⟩
theorem pe_lst (h : PA X es t) : PE X (.List es pos) (tLst t) := by
  intro pins s σ H Q I hq
  refine wpAny_List_spliced (thn (h pos pins s σ H _ I hq) fun us s1 ⟨xs, H1, I1, r, z, q⟩ => ⟨by rw [← r.length]; exact z, ?_⟩)
  have hf : H1 s1.heap.objs.size = none := I1.hok.fresh (Nat.le_refl _)
  refine ⟨.ref s1.heap.objs.size, upd H1 s1.heap.objs.size (.lst xs), I1.laid (t' := s1.toks) (fun b u e => Heap.get?_push_of_some _ e) (Nat.le_refl _) ?_, rfl, q _ hf⟩
  exact ⟨z, us, 0, r, Heap.get?_push_size _ rfl⟩
end

/-! ### what a def promises -/
/-- a def's promise: the bound arguments in the parameters' order, the heap, the wanted end, the wanted exception -/
abbrev Sp := List V → Hp → VK → XK → Prop
/-- how an exception lies behind a call (file 08 gives it): the callers' frames, abstract heap and state ahead of the call, the wish, the exception, the state -/
abbrev CXT := List Env → Hp → Shared → XK → Value → Shared → Prop

/-- the state at a call -/
structure Env0 (P : Program) (w : World) (K : PySem.W.Frag) (mg : Str → Option Value) (base : Heap) (A : Around) (outer : List Env) (s : Shared) (H : Hp) : Prop where
  frames : A.frames = some outer
  mod : Mod K mg base
  bs : ∀ b o, base.get? b = some o → s.heap.get? b = some o ∧ H b = none
  bsz : base.objs.size ≤ s.heap.objs.size
  funs : s.heap.FunFrames base outer
  frf : ∀ b ∈ frs outer, H b = none
  hok : HOk P w H s.heap
  bare : AllBare s.gens
/-- a call's end -/
def CE (outer : List Env) (P : Program) (w : World) (H : Hp) (s : Shared) (Q : VK) (u : Value) (s' : Shared) : Prop :=
  ∃ v H', s'.os = s.os ∧ AllBare s'.gens ∧ Un (frs outer) [] H H' s.heap s'.heap ∧ HOk P w H' s'.heap ∧ RelV v u ∧ Q v H'
def CR (CX : CXT) (outer : List Env) (P : Program) (w : World) (H : Hp) (s : Shared) (Q : VK) (E : XK) (r : Result) (s' : Shared) : Prop :=
  match r with
  | .ok (.ret u) => CE outer P w H s Q u s'
  | .ok _ => False
  | .error e => CX outer H s E e s'
structure FnOk (P : Program) (w : World) (K : PySem.W.Frag) (mg : Str → Option Value) (base : Heap) (CX : CXT) (k : Nat) (f : Addr) (fd : FuncData) (ps : List Str) (sp : Sp) : Prop where
  len : ∀ vs H Q E, sp vs H Q E → vs.length = ps.length
  run : ∀ (A : Around) (outer : List Env) (s : Shared) (H : Hp) (args : Args) (us : List Value) (vs : List V) (Q : VK) (E : XK), Room k A → Env0 P w K mg base A outer s H → BindsTo s fd args (ps.zip us) → Vals vs us → sp vs H Q E →
    codeAny (model P w) A (.call (.ref f) args) (CR CX outer P w H s Q E) s
theorem FnOk.mono {P : Program} {w : World} {K : PySem.W.Frag} {mg : Str → Option Value} {base : Heap} {CX : CXT} {j k : Nat} {f : Addr} {fd : FuncData} {ps : List Str} {sp : Sp} (F : FnOk P w K mg base CX j f fd ps sp) (h : j ≤ k) :
    FnOk P w K mg base CX k f fd ps sp := ⟨F.len, fun A outer s H args us vs Q E hr => F.run A outer s H args us vs Q E (hr.mono h)⟩
/-- a weaker promise -/
theorem FnOk.imp {P : Program} {w : World} {K : PySem.W.Frag} {mg : Str → Option Value} {base : Heap} {CX : CXT} {k : Nat} {f : Addr} {fd : FuncData} {ps : List Str} {sp sp' : Sp} (F : FnOk P w K mg base CX k f fd ps sp)
    (h : ∀ vs H Q E, sp' vs H Q E → sp vs H Q E) : FnOk P w K mg base CX k f fd ps sp' :=
  ⟨fun vs H Q E q => F.len vs H Q E (h _ _ _ _ q), fun A outer s H args us vs Q E hr he hb hv hs => F.run A outer s H args us vs Q E hr he hb hv (h _ _ _ _ hs)⟩

theorem Env0.make {P : Program} {w : World} {K : PySem.W.Frag} {mg : Str → Option Value} {base : Heap} {A : Around} {outer : List Env} {s : Shared} {H : Hp} (e : Env0 P w K mg base A outer s H) (C : Addr) (us : List Value) (kw : List (Str × Value)) :
    Env0 P w K mg base (A.under (.builtin "type.__call__" ⟨.ref C :: us, kw⟩)) outer s H := ⟨by first | exact e.frames | (simpa [Around.under, Code.envs, Code.isFrame, pushEnvs] using e.frames), e.mod, e.bs, e.bsz, e.funs, e.frf, e.hok, e.bare⟩
theorem Env0.in1 {P : Program} {w : World} {K : PySem.W.Frag} {mg : Str → Option Value} {base : Heap} {A : Around} {outer : List Env} {s : Shared} {H : Hp} (e : Env0 P w K mg base A outer s H) :
    Env0 P w K mg base A.in1 outer s H := ⟨e.frames, e.mod, e.bs, e.bsz, e.funs, e.frf, e.hok, e.bare⟩

section
variable {X : Cx} {pins : List (Addr × Obj)} {σ : St} {H : Hp} {s s' : Shared}
/-- from a body: what a callee wants -/
theorem Inv.env0 (I : Inv X pins σ H s) : Env0 X.prog X.w X.K X.mg X.base X.A X.stack s H :=
  ⟨I.ok.frames, I.ok.mod, I.bs, Nat.le_trans I.ok.bsz I.sz, I.stack, I.stkFree, I.hok, I.bare⟩
/-- behind a call -/
theorem Inv.after {Q : VK} {u : Value} (I : Inv X pins σ H s) (h : CE X.stack X.prog X.w H s Q u s') : EP X pins σ Q u s' := by
  obtain ⟨v, H', os, bare, un, hok, r, q⟩ := h
  obtain ⟨hh, g, d, t, os'⟩ := s'
  obtain rfl : os' = s.os := os
  exact ⟨v, H', I.call (h' := hh) (g' := g) (d' := d) (t' := t) (ch := []) un hok bare (fun b z => absurd z (by simp)), r, q⟩
end

/-! ### calls -/
/-- f(..): the written arguments, then the defaults dvs; E: what is wanted of an exception -/
def tCall (sp : Sp) (dvs : List V) (E : XK) (t : TA) : TE := fun σ H Q => t σ H fun vs H1 => sp (vs ++ dvs) H1 Q E
/-- how the parameters are bound: us the positional arguments, kw the keywords' values by name, ds the defaults that fill up -/
def Binds (K : PySem.W.Frag) (fd : FuncData) (ps : List Str) (ds : List Value) : Prop :=
  ∀ (s : Shared) (us : List Value), K.In s.heap → (us ++ ds).length = ps.length → BindsTo s fd ⟨us, []⟩ (ps.zip (us ++ ds))
/-- every parameter is given -/
theorem Binds.all {K : PySem.W.Frag} {fd : FuncData} {ps : List Str} (h : ∀ us : List Value, us.length = ps.length → bindArgs fd ⟨us, []⟩ = pure (ps.zip us)) : Binds K fd ps [] := fun s us _ hl => by
  rw [List.append_nil] at hl ⊢
  exact .of_eq (h us hl)

/-- an exception of a callee reaches what this body wants of exceptions -/
def Passes (CX : CXT) (X : Cx) (E : XK) : Prop := ∀ (pins : List (Addr × Obj)) (σ : St) (H : Hp) (s : Shared) (e : Value) (s' : Shared), Inv X pins σ H s → CX X.stack H s E e s' → X.xe e s'

section
variable {X : Cx} {CX : CXT} {k : Nat} {f C : Addr} {fd : FuncData} {ps : List Str} {sp : Sp} {dvs : List V} {ds : List Value} {E : XK} {x m : Str} {p pos apos : Pos} {e o : Expr} {es : List Expr} {ta : TE} {t : TA}

/-- the callee runs -/
theorem run_fn {pins : List (Addr × Obj)} {σ : St} {H : Hp} {s : Shared} {Q : VK} {us : List Value} {vs : List V} (F : FnOk X.prog X.w X.K X.mg X.base CX k f fd ps sp) (hr : Room k X.A) (hb : Binds X.K fd ps ds) (hd : Vals dvs ds) (hx : Passes CX X E)
    (I : Inv X pins σ H s) (r : Vals vs us) (h : sp (vs ++ dvs) H Q E) : wpAny (model X.prog X.w) X.A (call (.ref f) us) (EP X pins σ Q) X.xe s := by
  have r2 : Vals (vs ++ dvs) (us ++ ds) := r.append hd
  have hl : (us ++ ds).length = ps.length := by rw [← r2.length]; exact F.len _ _ _ _ h
  refine wpAny_call (codeAny_mono (F.run X.A X.stack s H ⟨us, []⟩ (us ++ ds) (vs ++ dvs) Q E hr I.env0 (hb s us I.kIn hl) r2 h) fun r s' hq => ?_)
  cases r with
  | error e => exact hx pins σ H s e s' I hq
  | ok fl =>
    cases fl with
    | ret u => exact I.after hq
    | next => exact False.elim hq
    | brk => exact False.elim hq
    | cont => exact False.elim hq

theorem pe_call (F : FnOk X.prog X.w X.K X.mg X.base CX k f fd ps sp) (hr : Room k X.A) (hg : Gl X x) (hm : X.mg x = some (.ref f)) (hk : PySem.W.keepIn X.K (.ref f) = true) (hb : Binds X.K fd ps ds) (hd : Vals dvs ds) (hx : Passes CX X E)
    (ha : PA X (e :: es) t) (hdb : (x == ("__debug__" : Str)) = false := by decide) (he : starEach (e :: es) X.env = (false, eval e X.env) :: starEach es X.env := by rfl) (hpl : (backTo pos (starEach es X.env)).any (·.1) = false := by rfl) :
    PE X (.Call (.Name x p) (e :: es) [] pos) (tCall sp dvs E t) := by
  intro pins s σ H Q I h
  refine wpAny_Call_Name_kw (ld_glob I hg hm ?_ hdb)
  refine PySem.W.callWith_K (h₀ := X.base) I.ok.mod.kin hk (thn (ha pos pins s σ H _ I h) fun us s1 ⟨vs, H1, I1, r, q⟩ => ⟨I1.kIn, ?_⟩) he hpl
  exact run_fn F hr hb hd hx I1 r q
/-- what a class must have to be made -/
structure Mk (K : PySem.W.Frag) (C f : Addr) : Prop where
  makes : PySem.W.makesIn K C = true
  init : PySem.W.findIn K (.ref C) "__init__" = some (some (.ref f))
  fn : PySem.W.isFn K (.ref f) = true
  kp : PySem.W.keepIn K (.ref C) = true

end

/-! ### keywords -/
section
variable {X : Cx} {CX : CXT} {k : Nat} {f C : Addr} {fd : FuncData} {ps ks : List Str} {sp : Sp} {E : XK} {x m : Str} {p pos apos kpos : Pos} {e o : Expr} {es : List Expr} {kws : List Keyword} {te ta : TE} {t tk : TA} {nm : Option Str}
/-- how a call with keywords binds: g puts the positional values us and the keywords' values ws (names ks) in the parameters' order, defaults among them -/
structure KBinds (K : PySem.W.Frag) (fd : FuncData) (ps ks : List Str) (g : List Value → List Value → List Value) (gV : List V → List V → List V) : Prop where
  to : ∀ (s : Shared) (us ws : List Value), K.In s.heap → (g us ws).length = ps.length → BindsTo s fd ⟨us, ks.zip ws⟩ (ps.zip (g us ws))
  rel : ∀ {vs : List V} {us : List Value} {zs : List V} {ws : List Value}, Vals vs us → Vals zs ws → Vals (gV vs zs) (g us ws)
variable {g : List Value → List Value → List Value} {gV : List V → List V → List V}
end

/-! ### a def's body keeps its promise -/
/-- names: the parameters first -/
structure FnScope (N P : List Str) (sc : Scope) : Prop where
  kind : sc.kind = .function
  co : sc.isCoroutine = false
  gen : sc.isGenerator = false
  nd : N.Nodup
  pre : N.take P.length = P
  par : ∀ x ∈ P, sc.names.lookup x = some .local ∨ sc.names.lookup x = some .cell
  nofree : ∀ y ∈ sc.names, y.2 ≠ .free

theorem bindL_out {kindOf : Str → Option NameKind} {x : Str} : ∀ {binds : List (Str × Value)} {m : Str → Option Value}, (∀ v, (x, v) ∉ binds) → bindL kindOf binds m x = m x
  | [], _, _ => rfl
  | (n, v) :: r, m, h => by
    unfold bindL
    rw [bindL_out fun w hw => h w (List.mem_cons_of_mem _ hw)]
    split
    · have : x ≠ n := by rintro rfl; exact h v List.mem_cons_self
      simp [this]
    · rfl
theorem bindC_out {kindOf : Str → Option NameKind} {x : Str} : ∀ {binds : List (Str × Value)} {m : Str → Option Value}, (∀ v, (x, v) ∉ binds) → bindC kindOf binds m x = m x
  | [], _, _ => rfl
  | (n, v) :: r, m, h => by
    unfold bindC
    rw [bindC_out fun w hw => h w (List.mem_cons_of_mem _ hw)]
    split
    · rfl
    · have : x ≠ n := by rintro rfl; exact h v List.mem_cons_self
      simp [this]
theorem bindL_get {kindOf : Str → Option NameKind} {x : Str} {v : Value} : ∀ {P : List Str} {vs : List Value} {i : Nat} {m : Str → Option Value}, P.Nodup → P[i]? = some x → vs[i]? = some v → kindOf x = some .local →
    bindL kindOf (P.zip vs) m x = some v
  | [], _, _, _, _, h, _, _ => by simp at h
  | _ :: _, [], _, _, _, _, h, _ => by simp at h
  | p :: P, w :: vs, 0, m, nd, h1, h2, hk => by
    simp at h1 h2; subst h1; subst h2
    show bindL kindOf ((p, w) :: P.zip vs) m p = _
    unfold bindL
    rw [bindL_out fun v hv => (List.nodup_cons.mp nd).1 (List.of_mem_zip hv).1, if_pos hk]
    simp
  | p :: P, w :: vs, i + 1, m, nd, h1, h2, hk => by
    show bindL kindOf ((p, w) :: P.zip vs) m x = _
    unfold bindL
    exact bindL_get (i := i) (List.nodup_cons.mp nd).2 (by simpa using h1) (by simpa using h2) hk
theorem bindC_get {kindOf : Str → Option NameKind} {x : Str} {v : Value} : ∀ {P : List Str} {vs : List Value} {i : Nat} {m : Str → Option Value}, P.Nodup → P[i]? = some x → vs[i]? = some v → kindOf x ≠ some .local →
    bindC kindOf (P.zip vs) m x = some v
  | [], _, _, _, _, h, _, _ => by simp at h
  | _ :: _, [], _, _, _, _, h, _ => by simp at h
  | p :: P, w :: vs, 0, m, nd, h1, h2, hk => by
    simp at h1 h2; subst h1; subst h2
    show bindC kindOf ((p, w) :: P.zip vs) m p = _
    unfold bindC
    rw [bindC_out fun v hv => (List.nodup_cons.mp nd).1 (List.of_mem_zip hv).1, if_neg hk]
    simp
  | p :: P, w :: vs, i + 1, m, nd, h1, h2, hk => by
    show bindC kindOf ((p, w) :: P.zip vs) m x = _
    unfold bindC
    exact bindC_get (i := i) (List.nodup_cons.mp nd).2 (by simpa using h1) (by simpa using h2) hk

/-- the names' values at the entry -/
def start (N : List Str) (vs : List V) : St := vs.map some ++ List.replicate (N.length - vs.length) none

/-- the context of a def's body, at its entry; an exception leaves the frame, then lies as CX says -/
def cxOf (CX : CXT) (P : Program) (w : World) (K : PySem.W.Frag) (mg : Str → Option Value) (base : Heap) (N : List Str) (qual : Str) (scope : Scope) (f : Addr) (cd : Value) (A : Around) (outer : List Env) (s : Shared) (H : Hp) (E : XK) : Cx where
  prog := P
  w := w
  K := K
  mg := mg
  base := base
  A := A.deeper (envOfC qual scope s.heap.objs.size f cd)
  N := N
  s₀ := s
  H₀ := H
  env := envOfC qual scope s.heap.objs.size f cd
  outer := outer
  stack := envOfC qual scope s.heap.objs.size f cd :: outer
  ex := []
  calm := true
  fn := fun _ => true
  pn := []
  xe := fun e s' => wpAny (model P w) (A.deeper (envOfC qual scope s.heap.objs.size f cd)) (leaving (envOfC qual scope s.heap.objs.size f cd) e) (fun _ s'' => CX outer H s E e s'') (fun e' s'' => CX outer H s E e' s'') s'

theorem cell_has {sc : Scope} {n : Nat} {x : Str} (h : sc.names.lookup x = some .cell) : ∃ c, (cellsFrom n sc.names []).lookup x = some c := by
  have q := PySem.W.cellsFrom_some sc.names n [] (.inl h)
  exact Option.isSome_iff_exists.mp q

theorem inv_start {CX : CXT} {P : Program} {w : World} {K : PySem.W.Frag} {mg : Str → Option Value} {base : Heap} {N ps : List Str} {qual : Str} {scope : Scope} {f : Addr} {cd : Value} {A : Around} {outer : List Env} {s s1 : Shared} {H : Hp} {E : XK} {us : List Value} {vs : List V}
    (S : FnScope N ps scope) (hd : A.handled = none) (e0 : Env0 P w K mg base A outer s H) (hl : vs.length = ps.length) (r : Vals vs us)
    (x : InCallC s s.heap.objs.size (bindL (envOfC qual scope s.heap.objs.size f cd).kindOf (ps.zip us) fun _ => none) (cellsFrom (s.heap.objs.size + 1) scope.names []) (bindC (envOfC qual scope s.heap.objs.size f cd).kindOf (ps.zip us) fun _ => none) s1) :
    Inv (cxOf CX P w K mg base N qual scope f cd A outer s H E) [] (start N vs) H s1 := by
  have hpl : ps.length ≤ N.length := by have := congrArg List.length S.pre; rw [List.length_take] at this; omega
  obtain ⟨h1, tk, rfl, hk⟩ := x.done
  have noA : ∀ b : Addr, b ∉ (cxOf CX P w K mg base N qual scope f cd A outer s H E).ex := fun b z => absurd (show b ∈ ([] : List Addr) from z) (by simp)
  refine ⟨⟨e0.mod, S.kind, rfl, rfl, Nat.le_refl _, fun y z c h1 h2 => ?_, fun y hy => ?_, fun y c _ h => ?_, fun _ => hd, Around.frames_deeper e0.frames, .inr ⟨rfl, rfl⟩, fun b z => absurd z (noA b), e0.bs, e0.bsz, fun b _ _ => noA b, fun b z => absurd z (noA b), e0.funs, e0.frf⟩,
    rfl, e0.bare, Un.kept hk, ⟨_, x.toInCall.ns, fun i y v h1 h2 h3 => ?_⟩, fun y c h => ⟨_, x.cell y c h⟩, e0.hok.fresh (Nat.le_refl _), fun y c h => ?_, fun p hp => absurd (show p ∈ ([] : List (Addr × Obj)) from hp) (by simp), e0.hok.kept hk, ?_⟩
  · exact name_of_addr x.apart (PySem.mem_of_lookup h1) (PySem.mem_of_lookup h2)
  · have hy : scope.names.lookup y = some .cell ∨ scope.names.lookup y = some .free := hy
    rcases hy with hy | hy
    · exact cell_has hy
    · exact absurd rfl (S.nofree _ (PySem.mem_of_lookup hy))
  · exact Nat.le_of_lt (x.above y c (PySem.mem_of_lookup h))
  · have hi : i < vs.length := by
      unfold start at h2
      by_cases hi : i < vs.length
      · exact hi
      · rw [List.getElem?_append_right (by simpa using hi)] at h2
        rw [List.getElem?_replicate] at h2
        split at h2 <;> cases h2
    have ha : vs[i]? = some v := by
      unfold start at h2
      rw [List.getElem?_append_left (by simpa using hi), List.getElem?_map] at h2
      cases e : vs[i]? with
      | none => rw [e] at h2; cases h2
      | some a => rw [e] at h2; cases h2; rfl
    obtain ⟨u, hu, rv⟩ := r.get ha
    have hp : ps[i]? = some y := by
      rw [← S.pre, List.getElem?_take_of_lt (by omega)]; exact h1
    have ndP : ps.Nodup := by rw [← S.pre]; exact S.nd.sublist (List.take_sublist _ _)
    refine ⟨u, rv, ?_⟩
    rcases S.par y (List.mem_of_getElem? hp) with k | k
    · exact .inl ⟨k, bindL_get ndP hp hu k⟩
    · obtain ⟨c, e⟩ := cell_has (n := s.heap.objs.size + 1) k
      refine .inr ⟨.inl k, c, e, ?_⟩
      have q := x.cell y c e
      rw [bindC_get ndP hp hu (by show scope.names.lookup y ≠ _; rw [k]; decide)] at q
      exact q
  · exact e0.hok.fresh (Nat.le_of_lt (x.above y c (PySem.mem_of_lookup h)))
  · unfold start
    show _ = N.length
    rw [List.length_append, List.length_map, List.length_replicate]
    omega

/-- THE RULE: a def (or a method) of the text, by its body. The body's reading t is chosen for each entry; it is run at the parameters' values -/
theorem fn_of {CX : CXT} {P : Program} {w : World} {K : PySem.W.Frag} {mg : Str → Option Value} {base : Heap} {k : Nat} {f : Addr} {name qual : Str} {params : Arguments} {body : List Stmt} {scope : Scope} {dV kV doc pm cdv ct oc : Value} {an od : Option Addr}
    {osl : Array (Option Value)} {N ps : List Str} {sp : Sp} (lk : K.lookup f = some ⟨oc, od, .func (PySem.W.fnOf name qual params body scope dV kV doc pm an cdv ct), osl⟩) (hcd : PySem.W.codeIn K cdv qual = true) (S : FnScope N ps scope)
    (len : ∀ vs H Q E, sp vs H Q E → vs.length = ps.length)
    (hbody : ∀ (A : Around) (outer : List Env) (s : Shared) (H : Hp) (vs : List V) (Q : VK) (E : XK), Room k (A.deeper (envOfC qual scope s.heap.objs.size f cdv)) → sp vs H Q E →
      ∃ t, PSs (cxOf CX P w K mg base N qual scope f cdv A outer s H E) body t ∧ t { nx := fun _ H' => Q .non H', rt := Q } (start N vs) H) :
    FnOk P w K mg base CX (k + 1) f (PySem.W.fnOf name qual params body scope dV kV doc pm an cdv ct) ps sp := by
  refine ⟨len, fun A outer s H args us vs Q E hr e0 hb r hsp => ?_⟩
  have hl := len _ _ _ _ hsp
  have KX : K.In s.heap := e0.mod.kin.keeps fun b o e => (e0.bs b o e).1
  have lim : s.heap.NoLimit := e0.mod.nolimit.keeps fun b o e => (e0.bs b o e).1
  have hkind : ∀ y ∈ ps.zip us, scope.names.lookup y.1 = some .local ∨ (scope.names.lookup y.1 = some .cell ∧ ((cellsFrom (s.heap.objs.size + 1) scope.names []).lookup y.1).isSome = true) := fun ⟨n, v⟩ hy => by
    rcases S.par n (List.of_mem_zip hy).1 with q | q
    · exact .inl q
    · exact .inr ⟨q, PySem.W.cellsFrom_some _ _ _ (.inl q)⟩
  refine codeAny_call_function hr.depth (KX _ _ lk) rfl S.co S.gen rfl (PySem.W.codeRec_of KX hcd) (hb _ _ _ _ ?_)
  refine wpAny_newFunctionEnv_cells S.kind hkind fun env he s1 x => ?_
  subst he
  refine ⟨lim.keeps x.toInCall.keep, codeAny_func ?_⟩
  obtain ⟨t, ht, hq⟩ := hbody A outer s H vs Q E (hr.deeper _) hsp
  have I : Inv (cxOf CX P w K mg base N qual scope f cdv A outer s H E) [] (start N vs) H s1 := inv_start S hr.hd e0 hl r x
  refine wpAny_mono (ht [] s1 (start N vs) H _ I hq) (fun fl s' hs => ?_) fun e s' hs => hs
  have fin : ∀ {σ' : St} {H' : Hp} {v : V} {u : Value}, Inv (cxOf CX P w K mg base N qual scope f cdv A outer s H E) [] σ' H' s' → RelV v u → Q v H' → CE outer P w H s Q u s' :=
    fun {σ' H' v u} J rv q => ⟨v, H', J.os, J.bare, J.base, J.hok, rv, q⟩
  cases fl with
  | ret u =>
    obtain ⟨v, σ', H', J, rv, q⟩ := hs
    exact fin J rv q
  | next =>
    obtain ⟨σ', H', J, q⟩ := hs
    exact fin (v := V.non) (u := Value.none) J rfl q
  | brk =>
    obtain ⟨_, _, _, q⟩ := hs
    exact False.elim q
  | cont =>
    obtain ⟨_, _, _, q⟩ := hs
    exact False.elim q
end L2

namespace L2
open PySem PySem.Spec PyProof.Rows
section
variable {X : Cx} {x : Str} {p pos : Pos} {e : Expr} {es : List Expr} {t : TA} {id T : String} {r : List V → Hp → VK → Prop}

def tCB (r : List V → Hp → VK → Prop) (t : TA) : TE := fun σ H Q => t σ H fun vs H1 => r vs H1 Q
/-- f(e, ..), f a built-in function -/
theorem pe_callB (hc : CallR X (.builtin id) r) (hg : Gl X x) (hm : X.mg x = none) (hv : bootBuiltins x = some (.builtin id)) (ha : PA X (e :: es) t) (hn : x ≠ "__name__" := by decide) (hdb : (x == ("__debug__" : Str)) = false := by decide)
    (he : starEach (e :: es) X.env = (false, eval e X.env) :: starEach es X.env := by rfl) (hpl : (backTo pos (starEach es X.env)).any (·.1) = false := by rfl) : PE X (.Call (.Name x p) (e :: es) [] pos) (tCB r t) := by
  intro pins s σ H Q I h
  refine wpAny_Call_Name_kw (ld_blt I hg hm hv ?_ hn hdb)
  exact PyProof.Rows.callWith_builtin1 (thn (ha pos pins s σ H _ I h) fun us s1 ⟨vs, H1, I1, r1, q1⟩ => hc pins s1 σ H1 vs us Q I1 r1 q1) he hpl
/-- T(e, ..), T a built-in type -/
theorem pe_callTy (hc : CallR X (.type T) r) (hg : Gl X x) (hm : X.mg x = none) (hv : bootBuiltins x = some (.type T)) (ha : PA X (e :: es) t) (hn : x ≠ "__name__" := by decide) (hdb : (x == ("__debug__" : Str)) = false := by decide)
    (he : starEach (e :: es) X.env = (false, eval e X.env) :: starEach es X.env := by rfl) (hpl : (backTo pos (starEach es X.env)).any (·.1) = false := by rfl) : PE X (.Call (.Name x p) (e :: es) [] pos) (tCB r t) := by
  intro pins s σ H Q I h
  refine wpAny_Call_Name_kw (ld_blt I hg hm hv ?_ hn hdb)
  exact PyProof.Rows.callWith_type1 (thn (ha pos pins s σ H _ I h) fun us s1 ⟨vs, H1, I1, r1, q1⟩ => hc pins s1 σ H1 vs us Q I1 r1 q1) he hpl
end
end L2

namespace HT
open PySem PyProof.Rows

section
open PySem.SeqAt
open PySem.AutoSeq1 (wpAny_loadPart')
open PySem.MeetsSeq PySem.MeetsSeq2 PySem.MeetsSeq3

end

section
variable {prog : Program} {w : World} {A : Around} {E : Value → Shared → Prop} {s : Shared}

/-! ### t[a:b], not the whole -/
/-- a slice's bound as a place among n (d where it is left out) -/
def sIx (n d : Nat) : Option Int → Nat
  | none => d
  | some v => if v < 0 then (v + (n : Int)).toNat else min v.toNat n
theorem sIx_nat (n d k : Nat) : sIx n d (some (k : Int)) = min k n := by
  show (if (k : Int) < 0 then ((k : Int) + (n : Int)).toNat else min (k : Int).toNat n) = min k n
  rw [if_neg (by omega), Int.toNat_natCast]
end
end HT

namespace L2
open PySem PySem.Spec PyProof.Rows

/-! ### the parts of a slice -/
abbrev TO := St → Hp → (Option Int → Hp → Prop) → Prop
/-- a slice's part (left out, or an int) -/
def PO (X : Cx) (e : Option Expr) (t : TO) : Prop :=
  ∀ (pins : List (Addr × Obj)) (s : Shared) (σ : St) (H : Hp) (Q : Option Int → Hp → Prop), Inv X pins σ H s → t σ H Q →
    wpAny (model X.prog X.w) X.A (evalPart e X.env) (fun u s' => ∃ o H', Inv X pins σ H' s' ∧ IsPart u o ∧ Q o H') X.xe s
def tNoPart : TO := fun _ H Q => Q none H
def tPart (t : TE) : TO := fun σ H Q => t σ H fun x H1 => ∃ i, x = .int i ∧ Q (some i) H1

section
variable {X : Cx} {e : Expr} {te : TE} {lo hi : Option Expr} {tl th : TO} {pos p2 : Pos}

theorem po_none : PO X none tNoPart := by
  intro pins s σ H Q I h
  rw [evalPart_none]
  exact wpAny_pure ⟨none, H, I, .none, h⟩
theorem po_some (h : PE X e te) : PO X (some e) (tPart te) := by
  intro pins s σ H Q I hw
  rw [evalPart_some]
  refine thn (h pins s σ H _ I hw) fun u s1 ⟨x, H1, I1, r1, q1⟩ => ?_
  obtain ⟨i, rfl, q⟩ := q1
  obtain ⟨t, rfl⟩ := r1
  exact ⟨some i, H1, I1, .int i t, q⟩

/-- what a slice of a value is, by values: the slice object stands at sl -/
def SlR (X : Cx) (r : V → Option Int → Option Int → Hp → VK → Prop) : Prop :=
  ∀ (pins : List (Addr × Obj)) (s : Shared) (σ : St) (H : Hp) (x : V) (v vl vu : Value) (lo hi : Option Int) (sl : Addr) (Q : VK), Inv X pins σ H s → RelV x v → s.heap.IsSliceOf sl vl vu .none → IsPart vl lo → IsPart vu hi → r x lo hi H Q →
    ∃ T id, typeLookup (.type T) "__getitem__" = pure (some (.builtin id)) ∧ s.TypeIs v T ∧ wpAny (model X.prog X.w) X.A (getItem v (.ref sl)) (EP X pins σ Q) X.xe s
theorem SlR.or {r r' : V → Option Int → Option Int → Hp → VK → Prop} (h : SlR X r) (h' : SlR X r') : SlR X (fun x lo hi H Q => r x lo hi H Q ∨ r' x lo hi H Q) := by
  intro pins s σ H x v vl vu lo hi sl Q I rx hs pl pu q
  rcases q with q | q
  · exact h pins s σ H x v vl vu lo hi sl Q I rx hs pl pu q
  · exact h' pins s σ H x v vl vu lo hi sl Q I rx hs pl pu q
def tSl (r : V → Option Int → Option Int → Hp → VK → Prop) (te : TE) (tl th : TO) : TE := fun σ H Q => te σ H fun x H1 => tl σ H1 fun l H2 => th σ H2 fun u H3 => r x l u H3 Q
/-- a[lo:hi], any a -/
theorem pe_slice {r : V → Option Int → Option Int → Hp → VK → Prop} (hr : SlR X r) (he : PE X e te) (hl : PO X lo tl) (hu : PO X hi th) : PE X (.Subscript e (.Slice lo hi none p2) pos) (tSl r te tl th) := by
  intro pins s σ H Q I h
  refine Subscript_ (thn (he pins s σ H _ I h) fun v s1 ⟨x, H1, I1, r1, q1⟩ => ?_)
  refine wpAny_Slice (thn (hl pins s1 σ H1 _ I1 q1) fun vl s2 ⟨l, H2, I2, pl, q2⟩ => thn (hu pins s2 σ H2 _ I2 q2) fun vu s3 ⟨u, H3, I3, pu, q3⟩ => ?_)
  rw [evalPart_none]
  refine wpAny_pure ?_
  have I4 : Inv X pins σ H3 { s3 with heap := s3.heap.push { cls := .type "slice", data := .fields #[vl, vu, .none] } } := I3.kept (t' := s3.toks) fun b ob q => Heap.get?_push_of_some _ q
  obtain ⟨T, id, hT, ht, hg⟩ := hr pins { s3 with heap := s3.heap.push { cls := .type "slice", data := .fields #[vl, vu, .none] } } σ H3 x v vl vu l u s3.heap.objs.size Q I4 r1 (Heap.IsSliceOf.new ..) pl pu q3
  show wpAny (model X.prog X.w) X.A (subscriptTail e (.Slice lo hi none p2) v (.ref s3.heap.objs.size)) (EP X pins σ Q) X.xe { s3 with heap := s3.heap.push { cls := .type "slice", data := .fields #[vl, vu, .none] } }
  exact tail_any (ops := [.ref s3.heap.objs.size, v]) ht hT hg (by with_unfolding_all rfl)

/-- the items of xs[lo:hi] -/
def cutV (xs : List V) (lo hi : Option Int) : List V := (xs.drop (HT.sIx xs.length 0 lo)).take (HT.sIx xs.length xs.length hi - HT.sIx xs.length 0 lo)
theorem cutV_length (xs : List V) (lo hi : Option Int) : (cutV xs lo hi).length ≤ xs.length := by
  unfold cutV
  rw [List.length_take, List.length_drop]
  omega
/-! ### t < u, t + u -/
end
end L2

namespace L2
open PySem PySem.Spec PyProof.Rows

/-! ### places -/
/-- the place that an index of any sign means -/
def ixN (n : Nat) (i : Int) : Option Nat := if 0 ≤ i then (if i < n then some i.toNat else none) else if -(n : Int) ≤ i then some (i + n).toNat else none
def atI {α : Type} (xs : List α) (i : Int) : Option α := (ixN xs.length i).bind fun j => xs[j]?
theorem ixN_seq {n : Nat} {i : Int} {j : Nat} (h : ixN n i = some j) : seqIndex? i n = some j ∧ j < n ∧ -(n : Int) ≤ i ∧ i < n := by
  unfold ixN at h
  by_cases h0 : 0 ≤ i
  · rw [if_pos h0] at h
    by_cases h1 : i < n
    · rw [if_pos h1] at h
      have e : i.toNat = j := Option.some.inj h
      exact ⟨by rw [seqIndex_of h0 h1, e], by omega, by omega, h1⟩
    · rw [if_neg h1] at h; cases h
  · rw [if_neg h0] at h
    by_cases h1 : -(n : Int) ≤ i
    · rw [if_pos h1] at h
      have e : (i + n).toNat = j := Option.some.inj h
      exact ⟨by rw [seqIndex_neg (by omega) h1, e], by omega, h1, by omega⟩
    · rw [if_neg h1] at h; cases h
theorem atI_get {α : Type} {xs : List α} {i : Int} {v : α} (h : atI xs i = some v) : ∃ j, seqIndex? i xs.length = some j ∧ xs[j]? = some v ∧ j < xs.length ∧ -(xs.length : Int) ≤ i ∧ i < xs.length := by
  unfold atI at h
  cases e : ixN xs.length i with
  | none => rw [e] at h; cases h
  | some j =>
    rw [e] at h
    obtain ⟨h1, h2, h3, h4⟩ := ixN_seq e
    exact ⟨j, h1, h, h2, h3, h4⟩
theorem atI_nat {α : Type} {xs : List α} {j : Nat} {v : α} (h : xs[j]? = some v) : atI xs (j : Int) = some v := by
  have hj : j < xs.length := (List.getElem?_eq_some_iff.mp h).1
  have e : ixN xs.length (j : Int) = some j := by
    unfold ixN
    rw [if_pos (by omega), if_pos (by omega)]; simp
  unfold atI; rw [e]; exact h
theorem atI_last {α : Type} (xs : List α) (v : α) : atI (xs ++ [v]) (-1) = some v := by
  have hl : (xs ++ [v]).length = xs.length + 1 := by simp
  have e : ixN (xs ++ [v]).length (-1) = some xs.length := by
    unfold ixN
    rw [hl, if_neg (by decide), if_pos (by omega)]
    congr 1
    omega
  unfold atI
  rw [e]
  show (xs ++ [v])[xs.length]? = some v
  simp

/-! ### what may be subscripted -/
/-- what stands as an index of a plain subscript -/
def PlainIx (b : Expr) : Prop := ∀ o i, subscripted b false o i = operate [o, i] (getItem o i)
/-- a subscript by values -/
def IxR (X : Cx) (r : R2) : Prop :=
  ∀ (value slice : Expr) (pins : List (Addr × Obj)) (s : Shared) (σ : St) (H : Hp) (x y : V) (v u : Value) (Q : VK), Inv X pins σ H s → RelV x v → RelV y u → r x y H Q →
    subscripted slice false v u = operate [v, u] (getItem v u) → wpAny (model X.prog X.w) X.A (subscriptTail value slice v u) (EP X pins σ Q) X.xe s
/-- a call of a builtin's method by values: the receiver, the arguments -/
def MtR (X : Cx) (id : String) (r : V → List V → Hp → VK → Prop) : Prop :=
  ∀ (pins : List (Addr × Obj)) (s : Shared) (σ : St) (H : Hp) (x : V) (xs : List V) (v : Value) (us : List Value) (Q : VK), Inv X pins σ H s → RelV x v → Vals xs us → r x xs H Q →
    wpAny (model X.prog X.w) X.A (call (.builtin id) (v :: us)) (EP X pins σ Q) X.xe s
section
variable {X : Cx} {a b : Expr} {ta tb : TE} {pos : Pos}
theorem IxR.or {r r' : R2} (h : IxR X r) (h' : IxR X r') : IxR X (fun x y H Q => r x y H Q ∨ r' x y H Q) := by
  intro value slice pins s σ H x y v u Q I rx ry q hs
  rcases q with q | q
  · exact h value slice pins s σ H x y v u Q I rx ry q hs
  · exact h' value slice pins s σ H x y v u Q I rx ry q hs
theorem MtR.or {id : String} {r r' : V → List V → Hp → VK → Prop} (h : MtR X id r) (h' : MtR X id r') : MtR X id (fun x xs H Q => r x xs H Q ∨ r' x xs H Q) := by
  intro pins s σ H x xs v us Q I rx rs q
  rcases q with q | q
  · exact h pins s σ H x xs v us Q I rx rs q
  · exact h' pins s σ H x xs v us Q I rx rs q
/-- a[b] -/
theorem pe_ix {r : R2} (hr : IxR X r) (ha : PE X a ta) (hb : PE X b tb) (hs : PlainIx b) : PE X (.Subscript a b pos) (tOp r ta tb) := by
  intro pins s σ H Q I h
  exact Subscript_ (binT ha hb I h fun v u s2 x y H2 I2 rx ry q => hr a b pins s2 σ H2 x y v u Q I2 rx ry q (hs _ _))

def rIxL (K : PySem.W.Frag) : R2 := fun x y H Q => ∃ p xs i v, x = .ref p ∧ y = .int i ∧ SqL K H p xs ∧ atI xs i = some v ∧ Q v H
def rIxT (K : PySem.W.Frag) : R2 := fun x y H Q => ∃ p xs i v, x = .ref p ∧ y = .int i ∧ SqT K H p xs ∧ atI xs i = some v ∧ Q v H
theorem ix_list : IxR X (rIxL X.K) := by
  intro value slice pins s σ H x y v u Q I rx ry h hs
  obtain ⟨p, xs, i, z, rfl, rfl, hq, he, q⟩ := h
  cases rx
  obtain ⟨t, rfl⟩ := ry
  obtain ⟨its, r, pl, hz⟩ := I.list hq
  obtain ⟨j, h1, h2, h3, h4, h5⟩ := atI_get he
  obtain ⟨w, ew, rw'⟩ := r.get h2
  have hl := r.length
  have hn := line63
  have fin : EP X pins σ Q w s := ⟨z, H, I, rw', q⟩
  by_cases h0 : 0 ≤ i
  · have hj : i.toNat = j := by
      rw [seqIndex_of h0 h5] at h1
      exact Option.some.inj h1
    exact item_listR pl.isList h0 (by omega) (by rw [hj]; simpa using ew) fin hs
  · have hj : (i + (its.toArray.size : Int)).toNat = j := by
      rw [seqIndex_neg (by omega) h4] at h1
      rw [List.size_toArray, ← hl]
      exact Option.some.inj h1
    exact subscriptTail_builtinR (x := w) pl.isList.typeIs slot_list_getitem.lookup
      (wpAny_getItem_list_neg (Q := fun r s' => r = w ∧ EP X pins σ Q r s') pl.isList (by omega) (by rw [List.size_toArray] <;> omega) (by omega) (by rw [hj]; simpa using ew) ⟨rfl, fin⟩) hs
theorem ix_tup : IxR X (rIxT X.K) := by
  intro value slice pins s σ H x y v u Q I rx ry h hs
  obtain ⟨p, xs, i, z, rfl, rfl, hq, he, q⟩ := h
  cases rx
  obtain ⟨t, rfl⟩ := ry
  obtain ⟨its, r, pl, hz⟩ := I.tuple hq
  obtain ⟨j, h1, h2, h3, h4, h5⟩ := atI_get he
  obtain ⟨w, ew, rw'⟩ := r.get h2
  have hl := r.length
  have hn := line63
  have fin : EP X pins σ Q w s := ⟨z, H, I, rw', q⟩
  exact subscriptTail_builtinR (x := w) pl.typeIs slot_tuple_getitem.lookup
    (getItem_tuple (j := j) (Q := fun r s' => r = w ∧ EP X pins σ Q r s') pl (by omega) (by omega) (by rw [List.size_toArray, ← hl]; exact h1) (by simpa using ew) ⟨rfl, fin⟩) hs
/-! ### xs[i] = v, any sign -/
/-- the list's object behind a store -/
theorem mapSeq_set (its : List Value) (n j : Nat) (u : Value) : Obj.mapSeq (·.setIfInBounds j u) { cls := .type "list", data := .seq its.toArray n } = { cls := .type "list", data := .seq (its.set j u).toArray n } := by
  simp [Obj.mapSeq]
theorem Inv.lst {pins : List (Addr × Obj)} {σ : St} {H : Hp} {s : Shared} {p : Addr} {xs : List V} (I : Inv X pins σ H s) (h : H p = some (.lst xs)) :
    ∃ (its : List Value) (n : Nat), Vals xs its ∧ s.heap.get? p = some { cls := .type "list", data := .seq its.toArray n } ∧ xs.length ≤ sizeLine := by
  obtain ⟨z, its, n, r, e⟩ := I.hok p _ h
  exact ⟨its, n, r, e, z⟩
/-- the list at p is written by an update of its object -/
theorem Inv.lstUpd {pins : List (Addr × Obj)} {σ : St} {H : Hp} {s : Shared} {p : Addr} {xs ys : List V} {its its' : List Value} {n n' : Nat} {f : Obj → Obj} (I : Inv X pins σ H s) (h : H p = some (.lst xs))
    (ho : s.heap.get? p = some { cls := .type "list", data := .seq its.toArray n }) (hf : f { cls := .type "list", data := .seq its.toArray n } = { cls := .type "list", data := .seq its'.toArray n' }) (r : Vals ys its') (hz : ys.length ≤ sizeLine) (t : Nat) :
    Inv X pins σ (upd H p (.lst ys)) { s with heap := s.heap.update p f, toks := t } := by
  have e : (s.heap.update p f).get? p = some { cls := .type "list", data := .seq its'.toArray n' } := by
    rw [Heap.get?_update_self f ho (by rw [hf] <;> rfl), hf]
  refine I.write (x := p) (e := p) (by rw [h]; trivial) (.inl rfl) (fun b u hb q => (Heap.get?_update_other _ _ (Ne.symm hb)).trans q) ⟨_, e⟩ ?_
  exact ⟨hz, its', n', r, e⟩
def rSetL : V → V → V → Hp → (Hp → Prop) → Prop := fun o i v H Q => ∃ p xs k j, o = .ref p ∧ i = .int k ∧ H p = some (.lst xs) ∧ ixN xs.length k = some j ∧ Q (upd H p (.lst (xs.set j v)))
theorem set_list : PSet X rSetL := by
  intro pins s σ H o i v ov iv u Q I ro ri rv h
  obtain ⟨p, xs, k, j, rfl, rfl, hp, hj, q⟩ := h
  cases ro
  obtain ⟨t, rfl⟩ := ri
  obtain ⟨its, n, r, ho, hz⟩ := I.lst hp
  obtain ⟨h1, h2, h3, h4⟩ := ixN_seq hj
  have hl := r.length
  have hn := line63
  have I' : Inv X pins σ (upd H p (.lst (xs.set j v))) { s with heap := s.heap.update p (Obj.mapSeq (·.setIfInBounds j u)) } :=
    I.lstUpd hp ho (mapSeq_set its n j u) (r.set rv j) (by rw [List.length_set]; exact hz) s.toks
  by_cases h0 : 0 ≤ k
  · have hk : k.toNat = j := by
      rw [seqIndex_of h0 h4] at h1
      exact Option.some.inj h1
    exact PySem.W.ki_setAt ho h0 (by omega) (by rw [List.size_toArray, ← hl]; exact h4) (by rw [hk]; exact ⟨_, I', q⟩)
  · have hk : (k + (its.toArray.size : Int)).toNat = j := by
      rw [seqIndex_neg (by omega) h3] at h1
      rw [List.size_toArray, ← hl]
      exact Option.some.inj h1
    exact PySem.W.ki_setBack ho (by omega) (by rw [List.size_toArray, ← hl]; exact h3) (by omega) (by rw [hk]; exact ⟨_, I', q⟩)

/-! ### slices -/
theorem slice_bounds (lo hi : Option Int) (n : Nat) : (sliceBounds lo hi none n).1 = ((HT.sIx n 0 lo : Nat) : Int) ∧ (sliceBounds lo hi none n).2.1 = ((HT.sIx n n hi : Nat) : Int) ∧ (sliceBounds lo hi none n).2.2 = 1 := by
  refine ⟨?_, ?_, rfl⟩
  · cases lo with
    | none => simp [sliceBounds, HT.sIx]
    | some i =>
      simp only [sliceBounds, HT.sIx, Option.getD_none, show (1 : Int) > 0 by decide, if_true]
      by_cases h : i < 0
      · simp only [h, if_true] <;> omega
      · simp only [h, if_false] <;> omega
  · cases hi with
    | none => simp [sliceBounds, HT.sIx]
    | some i =>
      simp only [sliceBounds, HT.sIx, Option.getD_none, show (1 : Int) > 0 by decide, if_true]
      by_cases h : i < 0
      · simp only [h, if_true] <;> omega
      · simp only [h, if_false] <;> omega
theorem slicePick_cut (its : List Value) (lo hi : Option Int) : slicePick its.toArray lo hi none = ((its.drop (HT.sIx its.length 0 lo)).take (HT.sIx its.length its.length hi - HT.sIx its.length 0 lo)).toArray := by
  obtain ⟨h1, h2, h3⟩ := slice_bounds lo hi its.toArray.size
  unfold slicePick
  rw [h1, h2, h3]
  simp only [sliceRange_one, pick_run, List.size_toArray] <;> rfl
/-- xs[lo:hi] of a list: a new list -/
def rSlL (K : PySem.W.Frag) : V → Option Int → Option Int → Hp → VK → Prop := fun x lo hi H Q => ∃ a xs, x = .ref a ∧ SqL K H a xs ∧ ∀ p, H p = none → Q (.ref p) (upd H p (.lst (cutV xs lo hi)))
theorem sl_list : SlR X (rSlL X.K) := by
  intro pins s σ H x v vl vu lo hi sl Q I rx hs pl pu h
  obtain ⟨a, xs, rfl, hx, q⟩ := h
  cases rx
  obtain ⟨its, r, ht, hz⟩ := I.list hx
  have hlen := r.length
  refine ⟨"list", _, slot_list_getitem.lookup, ht.isList.typeIs, ?_⟩
  refine wpAny_getItem_list_slice ht.isList hs pl pu .none (by simp) ?_ (by rw [List.size_toArray] <;> omega)
  rw [slicePick_cut, ← hlen]
  refine ⟨.ref s.heap.objs.size, _, I.laid (t' := s.toks) (o := .lst (cutV xs lo hi)) (fun b ob q => Heap.get?_push_of_some _ q) (Nat.le_refl _) ?_, rfl, q _ (I.hok.fresh (Nat.le_refl _))⟩
  exact ⟨Nat.le_trans (cutV_length xs lo hi) hz, _, 0, (r.drop (HT.sIx xs.length 0 lo)).take (HT.sIx xs.length xs.length hi - HT.sIx xs.length 0 lo), Heap.get?_push_size _ rfl⟩

/-! ### in, not in: flat items -/
def flatV : V → Bool
  | .non => true
  | .bl _ => true
  | .int _ => true
  | .str _ => true
  | _ => false
/-- == of flat values -/
def eqV : V → V → Bool
  | .non, .non => true
  | .bl a, .bl b => a == b
  | .bl a, .int b => (if a then 1 else 0) == b
  | .int a, .bl b => a == (if b then 1 else 0)
  | .int a, .int b => a == b
  | .str a, .str b => a == b
  | _, _ => false
theorem eqAt_V {A : Around} {s : Shared} {y x : V} {u v : Value} (ry : RelV y u) (rx : RelV x v) (fy : flatV y = true) (fx : flatV x = true) : SeqAt.EqAt A s u v (eqV y x) := by
  cases y with
  | non =>
    cases ry
    cases x with
    | non => cases rx; exact SeqAt.EqAt.same _
    | bl b => cases rx; exact SeqAt.EqAt.none_bool b
    | int b => obtain ⟨t, rfl⟩ := rx; exact SeqAt.EqAt.none_int b t
    | str b => obtain ⟨t, rfl⟩ := rx; exact SeqAt.EqAt.none_str b t
    | _ => exact absurd (show false = true from fx) Bool.false_ne_true
  | bl a =>
    cases ry
    cases x with
    | non => cases rx; exact SeqAt.EqAt.bool_none a
    | bl b => cases rx; exact SeqAt.EqAt.bool_bool a b
    | int b => obtain ⟨t, rfl⟩ := rx; exact SeqAt.EqAt.bool_int a b t
    | str b => obtain ⟨t, rfl⟩ := rx; exact SeqAt.EqAt.bool_str a b t
    | _ => exact absurd (show false = true from fx) Bool.false_ne_true
  | int a =>
    obtain ⟨t', rfl⟩ := ry
    cases x with
    | non => cases rx; exact SeqAt.EqAt.int_none a t'
    | bl b => cases rx; exact SeqAt.EqAt.int_bool a t' b
    | int b => obtain ⟨t, rfl⟩ := rx; exact SeqAt.EqAt.int_int a t' b t
    | str b => obtain ⟨t, rfl⟩ := rx; exact SeqAt.EqAt.int_str a t' b t
    | _ => exact absurd (show false = true from fx) Bool.false_ne_true
  | str a =>
    obtain ⟨t', rfl⟩ := ry
    cases x with
    | non => cases rx; exact SeqAt.EqAt.str_none a t'
    | bl b => cases rx; exact SeqAt.EqAt.str_bool a t' b
    | int b => obtain ⟨t, rfl⟩ := rx; exact SeqAt.EqAt.str_int a t' b t
    | str b => obtain ⟨t, rfl⟩ := rx; exact SeqAt.EqAt.str_str a t' b t
    | _ => exact absurd (show false = true from fx) Bool.false_ne_true
  | _ => exact absurd (show false = true from fy) Bool.false_ne_true
/-- the items' answers, read off the values (a value's own answer does not lean on its token) -/
def eqU (x : V) (u : Value) : Bool := match u with
  | .none => eqV .non x
  | .bool b => eqV (.bl b) x
  | .int i _ => eqV (.int i) x
  | .str z _ => eqV (.str z) x
  | _ => false
theorem eqU_of {x y : V} {u : Value} (r : RelV y u) (f : flatV y = true) : eqU x u = eqV y x := by
  cases y with
  | non => cases r; rfl
  | bl b => cases r; rfl
  | int i => obtain ⟨t, rfl⟩ := r; rfl
  | str z => obtain ⟨t, rfl⟩ := r; rfl
  | _ => exact absurd (show false = true from f) Bool.false_ne_true
theorem any_eqU {x : V} : ∀ {xs : List V} {us : List Value}, Vals xs us → xs.all flatV = true → us.any (eqU x) = xs.any fun y => eqV y x
  | _, _, .nil, _ => rfl
  | y :: xs, u :: us, .cons r t, f => by
    rw [List.all_cons, Bool.and_eq_true] at f
    rw [List.any_cons, List.any_cons, eqU_of r f.1, any_eqU t f.2]
theorem mem_eqAt {A : Around} {s : Shared} {x : V} {v : Value} (rx : RelV x v) (fx : flatV x = true) : ∀ {xs : List V} {us : List Value}, Vals xs us → xs.all flatV = true → ∀ u ∈ us, SeqAt.EqAt A s u v (eqU x u)
  | _, _, .nil, _ => fun u hu => by cases hu
  | y :: xs, u :: us, .cons r t, f => fun u' hu => by
    rw [List.all_cons, Bool.and_eq_true] at f
    rcases List.mem_cons.mp hu with rfl | hu
    · rw [eqU_of r f.1]; exact eqAt_V r rx f.1 fx
    · exact mem_eqAt rx fx t f.2 u' hu
def inV (x : V) (xs : List V) : Bool := xs.any fun y => eqV y x
/-- x in a list or tuple of flat items -/
def rIn (K : PySem.W.Frag) (neg : Bool) : R2 := fun x y H Q => ∃ p xs, y = .ref p ∧ (SqL K H p xs ∨ SqT K H p xs) ∧ flatV x = true ∧ xs.all flatV = true ∧ Q (.bl (if neg then !inV x xs else inV x xs)) H
theorem op_notIn_seq : OpR X (compareOp .NotIn) (rIn X.K true) := by
  intro pins s σ H x y v u Q I rx ry h
  obtain ⟨p, xs, rfl, hq, fx, fs, q⟩ := h
  cases ry
  rcases hq with hq | hq
  · obtain ⟨its, r, pl, hz⟩ := I.list hq
    refine SeqAt.notIn_listAt (eqU x) pl.isList (fun w hw => mem_eqAt rx fx r fs w (by simpa using hw)) ⟨.bl _, H, I, rfl, ?_⟩
    rw [show its.toArray.any (eqU x) = its.any (eqU x) by simp, any_eqU r fs]
    exact q
  · obtain ⟨its, r, pl, hz⟩ := I.tuple hq
    refine SeqAt.notIn_tupleAt (eqU x) pl (fun w hw => mem_eqAt rx fx r fs w (by simpa using hw)) ⟨.bl _, H, I, rfl, ?_⟩
    rw [show its.toArray.any (eqU x) = its.any (eqU x) by simp, any_eqU r fs]
    exact q
/-! ### len, list(x), tuple(x) of any list or tuple that is read -/
theorem call_len_seq : CallR X (.builtin "len") (fun xs H Q => ∃ p ys, xs = [.ref p] ∧ (SqL X.K H p ys ∨ SqT X.K H p ys) ∧ Q (.int ys.length) H) := by
  intro pins s σ H xs us Q I r h
  obtain ⟨p, ys, rfl, hq, q⟩ := h
  obtain ⟨u, rfl, rx⟩ := vals1 r
  cases rx
  have hn := line63
  rcases hq with hq | hq
  · obtain ⟨its, r', pl, hz⟩ := I.list hq
    have hlen := r'.length
    exact Calls.call_len_list pl.isList (by simp only [List.size_toArray] <;> omega) ⟨.int ys.length, H, I.tok _, ⟨s.toks + 1, by rw [List.size_toArray, hlen]⟩, q⟩
  · obtain ⟨its, r', pl, hz⟩ := I.tuple hq
    have hlen := r'.length
    exact len_tuple pl (by simp only [List.size_toArray] <;> omega) ⟨.int ys.length, H, I.tok _, ⟨s.toks + 1, by rw [List.size_toArray, hlen]⟩, q⟩
theorem CallR.or {f : Value} {r r' : List V → Hp → VK → Prop} (h : CallR X f r) (h' : CallR X f r') : CallR X f (fun xs H Q => r xs H Q ∨ r' xs H Q) := by
  intro pins s σ H xs us Q I rs q
  rcases q with q | q
  · exact h pins s σ H xs us Q I rs q
  · exact h' pins s σ H xs us Q I rs q
theorem call_list_of : CallR X (.type "list") (fun xs H Q => ∃ p ys, xs = [.ref p] ∧ (SqL X.K H p ys ∨ SqT X.K H p ys) ∧ ∀ l, H l = none → Q (.ref l) (upd H l (.lst ys))) := by
  intro pins s σ H xs us Q I r h
  obtain ⟨p, ys, rfl, hq, q⟩ := h
  obtain ⟨u, rfl, rx⟩ := vals1 r
  cases rx
  have fin : ∀ (its : List Value), Vals ys its → ys.length ≤ sizeLine → ∀ (h' : Heap) (c' : Nat), (∀ b o', s.heap.get? b = some o' → h'.get? b = some o') →
      h'.get? s.heap.objs.size = some { cls := .type "list", dict := none, data := .seq its.toArray c', slots := #[] } → EP X pins σ Q (.ref s.heap.objs.size) { s with heap := h' } := fun its r' hz h' c' kp e =>
    ⟨.ref s.heap.objs.size, _, I.laid (t' := s.toks) kp (Nat.le_refl _) (show ObjOk X.prog X.w _ h' _ (.lst ys) from ⟨hz, its, c', r', e⟩), rfl, q _ (I.hok.fresh (Nat.le_refl _))⟩
  rcases hq with hq | hq
  · obtain ⟨its, r', pl, hz⟩ := I.list hq
    have hlen := r'.length
    obtain ⟨o, ho, hc, n, hd⟩ := pl.isList
    exact call_list_seq p (.inl rfl) ho hc hd (fun h' c' kp e => fin its r' hz h' c' kp e) (by simp only [List.size_toArray] <;> omega)
  · obtain ⟨its, r', pl, hz⟩ := I.tuple hq
    have hlen := r'.length
    obtain ⟨o, ho, hc, n, hd⟩ := pl
    exact call_list_seq p (.inr rfl) ho hc hd (fun h' c' kp e => fin its r' hz h' c' kp e) (by simp only [List.size_toArray] <;> omega)
theorem call_tuple_of : CallR X (.type "tuple") (fun xs H Q => ∃ p ys, xs = [.ref p] ∧ ((SqL X.K H p ys ∧ ∀ l, H l = none → Q (.ref l) (upd H l (.tup ys))) ∨ (SqT X.K H p ys ∧ Q (.ref p) H))) := by
  intro pins s σ H xs us Q I r h
  obtain ⟨p, ys, rfl, h⟩ := h
  obtain ⟨u, rfl, rx⟩ := vals1 r
  cases rx
  rcases h with ⟨hq, q⟩ | ⟨hq, q⟩
  · obtain ⟨its, r', pl, hz⟩ := I.list hq
    have hlen := r'.length
    refine call_tuple_list pl.isList (fun h' kp => ?_) (by simp only [List.size_toArray] <;> omega)
    have I1 : Inv X pins σ H { s with heap := h' } := I.kept (t' := s.toks) kp
    have I2 : Inv X pins σ (upd H h'.objs.size (.tup ys)) { s with heap := h'.push { cls := .type "tuple", data := .seq its.toArray } } :=
      I1.laid (t' := s.toks) (fun b o e => Heap.get?_push_of_some _ e) (Nat.le_refl _) (show ObjOk X.prog X.w _ _ _ (.tup ys) from ⟨hz, its, r', IsTupN.new _ _⟩)
    exact ⟨.ref h'.objs.size, _, I2, rfl, q _ (I1.hok.fresh (Nat.le_refl _))⟩
  · obtain ⟨its, r', pl, hz⟩ := I.tuple hq
    exact call_tuple_same pl ⟨.ref p, H, I, rfl, q⟩

/-! ### the call of a builtin's method: o.m(..) -/
/-- the value is of that builtin type -/
def tyV (K : PySem.W.Frag) (T : String) (x : V) (H : Hp) : Prop := match x with
  | .str _ => T = "str"
  | .int _ => T = "int"
  | .ref p => (T = "list" ∧ ∃ xs, SqL K H p xs) ∨ (T = "tuple" ∧ ∃ o, K.lookup p = some o ∧ o.cls = .type "tuple" ∧ o.dict = none) ∨
      (T = "dict" ∧ ((∃ kvs, H p = some (.dK kvs)) ∨ ∃ kvs, H p = some (.dT kvs))) ∨ (T = "set" ∧ ∃ S n, H p = some (.set S n))
  | _ => False
theorem tyV_is {pins : List (Addr × Obj)} {σ : St} {H : Hp} {s : Shared} {T : String} {x : V} {v : Value} (I : Inv X pins σ H s) (r : RelV x v) (ty : tyV X.K T x H) :
    s.TypeIs v T ∧ ∀ a, v = .ref a → ∃ ob, s.heap.get? a = some ob ∧ ob.dict = none := by
  cases x with
  | str z =>
    obtain ⟨t, rfl⟩ := r
    cases (show T = "str" from ty)
    exact ⟨typeIs_str s z t, fun _ e => nomatch e⟩
  | int i =>
    obtain ⟨t, rfl⟩ := r
    cases (show T = "int" from ty)
    exact ⟨typeIs_int s i t, fun _ e => nomatch e⟩
  | ref p =>
    cases r
    rcases ty with ⟨rfl, xs, hq⟩ | ⟨rfl, o, hk, hc, hd⟩ | ⟨rfl, hk⟩ | ⟨rfl, S, n, hk⟩
    · obtain ⟨its, _, pl, _⟩ := I.list hq
      refine ⟨pl.isList.typeIs, fun a e => ?_⟩
      cases e
      obtain ⟨o, n, e, c, hd, _⟩ := pl
      exact ⟨o, e, hd⟩
    · refine ⟨⟨o, I.kIn p o hk, hc⟩, fun a e => ?_⟩
      cases e
      exact ⟨o, I.kIn _ o hk, hd⟩
    · have z : ∃ o, s.heap.get? p = some o ∧ o.ExactDict := by
        rcases hk with ⟨kvs, hk⟩ | ⟨kvs, hk⟩
        · obtain ⟨_, _, _, _, o, _, _, e, ex, _⟩ := I.hok p _ hk
          exact ⟨o, e, ex⟩
        · obtain ⟨_, _, _, _, o, _, _, e, ex, _⟩ := I.hok p _ hk
          exact ⟨o, e, ex⟩
      obtain ⟨o, e, ex⟩ := z
      refine ⟨⟨o, e, ex.1⟩, fun a e2 => ?_⟩
      cases e2
      exact ⟨o, e, ex.2.1⟩
    · obtain ⟨o, _, _, _, e, ex, _⟩ := I.hok p _ hk
      refine ⟨⟨o, e, ex.1⟩, fun a e2 => ?_⟩
      cases e2
      exact ⟨o, e, ex.2.1⟩
  | _ => exact False.elim ty
def tBM0 (K : PySem.W.Frag) (T : String) (r : V → List V → Hp → VK → Prop) (to : TE) : TE := fun σ H Q => to σ H fun x H1 => tyV K T x H1 ∧ r x [] H1 Q
def tBM (K : PySem.W.Frag) (T : String) (r : V → List V → Hp → VK → Prop) (to : TE) (t : TA) : TE := fun σ H Q => to σ H fun x H1 => tyV K T x H1 ∧ t σ H1 fun xs H2 => r x xs H2 Q
variable {o e : Expr} {es : List Expr} {to : TE} {t : TA} {name : Str} {apos cpos : Pos} {T id : String} {r : V → List V → Hp → VK → Prop}
theorem pe_bm0 (pa : PlainAttrs T) (slot : Slot T name id) (hty : typeOf (.builtin id) = pure (.type "method_descriptor")) (hm : MtR X id r) (ho : PE X o to)
    (hbase : attributeBase o name X.env (eval o X.env) = eval o X.env := by rfl) (hline : (apos.endLine == cpos.line) = true := by rfl) : PE X (.Call (.Attribute o name apos) [] [] cpos) (tBM0 X.K T r to) := by
  intro pins s σ H Q I h
  refine wpAny_Call_method0_late hbase hline (thn (ho pins s σ H _ I h) fun v s1 ⟨x, H1, I1, r1, ty, q1⟩ => ?_)
  obtain ⟨h1, h2⟩ := tyV_is I1 r1 ty
  exact ⟨T, id, pa, slot, hty, h1, h2, Calls.callWith_builtin rfl (PySem.evalArgs_none (hm pins s1 σ H1 x [] v [] Q I1 r1 .nil q1))⟩
theorem pe_bm (pa : PlainAttrs T) (slot : Slot T name id) (hty : typeOf (.builtin id) = pure (.type "method_descriptor")) (hm : MtR X id r) (ho : PE X o to) (ha : PA X (e :: es) t)
    (hbase : attributeBase o name X.env (eval o X.env) = eval o X.env := by rfl)
    (hfew : ((backTo cpos (starEach (e :: es) X.env)).all (fun x => !x.1) && (backToKw cpos (keywordEach [] X.env)).all (fun x => x.1.isSome)
      && decide ((e :: es).length + ([] : List Keyword).length + (if ([] : List Keyword).isEmpty then 0 else 1) < 30)) = true := by rfl)
    (hline : (apos.endLine == cpos.line) = true := by rfl) (hs : starEach (e :: es) X.env = (false, eval e X.env) :: starEach es X.env := by rfl) (hplain : (backTo cpos (starEach es X.env)).any (·.1) = false := by rfl) :
    PE X (.Call (.Attribute o name apos) (e :: es) [] cpos) (tBM X.K T r to t) := by
  intro pins s σ H Q I h
  refine wpAny_Call_method_late hbase hfew hline rfl (thn (ho pins s σ H _ I h) fun v s1 ⟨x, H1, I1, r1, ty, q1⟩ => ?_)
  obtain ⟨h1, h2⟩ := tyV_is I1 r1 ty
  refine ⟨T, id, pa, slot, hty, h1, h2, ?_⟩
  have hA := ha cpos pins s1 σ H1 _ I1 q1
  rw [hs] at hA ⊢
  refine Calls.callWith_builtin (by show (false || (backTo cpos (starEach es X.env)).any (·.1)) = false; rw [hplain] <;> rfl) (Calls.evalArgs_plain ?_)
  exact thn hA fun us s2 ⟨vs, H2, I2, r2, q2⟩ => hm pins s2 σ H2 x vs v us Q I2 r1 r2 q2
/- xs.append(e), list.index on a module's tuple .. are MtR facts of 06m -/
end
end L2

namespace L2
open PySem PySem.Spec PyProof.Rows

def MtM (X : Cx) (id : String) (r : V → List V → Hp → VK → Prop) : Prop :=
  ∀ (pins : List (Addr × Obj)) (s : Shared) (σ : St) (H : Hp) (x : V) (xs : List V) (v : Value) (us : List Value) (Q : VK), Inv X pins σ H s → RelV x v → Vals xs us → r x xs H Q →
    wpAny (model X.prog X.w) X.A (call (.builtin id) (v :: us)) (EP X pins σ Q) X.xe s

/-! ### lists of values -/
theorem Vals.one : ∀ {x : V} {us : List Value}, Vals [x] us → ∃ u, us = [u] ∧ RelV x u
  | _, _, .cons r .nil => ⟨_, rfl, r⟩
theorem Vals.two : ∀ {x y : V} {us : List Value}, Vals [x, y] us → ∃ u v, us = [u, v] ∧ RelV x u ∧ RelV y v
  | _, _, _, .cons r (.cons q .nil) => ⟨_, _, rfl, r, q⟩
theorem Vals.zero : ∀ {us : List Value}, Vals [] us → us = []
  | _, .nil => rfl
theorem Vals.dropLast {xs : List V} {us : List Value} (h : Vals xs us) : Vals xs.dropLast us.dropLast := by
  induction h with
  | nil => exact .nil
  | cons r t ih =>
    cases t with
    | nil => exact .nil
    | cons q t' => exact .cons r ih
theorem Vals.eraseIdx : ∀ {xs : List V} {us : List Value} (i : Nat), Vals xs us → Vals (xs.eraseIdx i) (us.eraseIdx i)
  | _, _, _, .nil => .nil
  | _, _, 0, .cons _ t => t
  | _, _, i + 1, .cons r t => .cons r (Vals.eraseIdx i t)
theorem Vals.reverse {xs : List V} {us : List Value} (h : Vals xs us) : Vals xs.reverse us.reverse := by
  induction h with
  | nil => exact .nil
  | cons r t ih => rw [List.reverse_cons, List.reverse_cons]; exact Vals.append ih (.cons r .nil)
theorem erase_last {α : Type} (l : List α) : l.eraseIdx (l.length - 1) = l.dropLast := by
  induction l with
  | nil => rfl
  | cons a r ih =>
    cases r with
    | nil => rfl
    | cons b r =>
      have e : (a :: b :: r).length - 1 = ((b :: r).length - 1) + 1 := by
        have h1 : (a :: b :: r).length = r.length + 2 := rfl
        have h2 : (b :: r).length = r.length + 1 := rfl
        omega
      rw [e, List.eraseIdx_cons_succ, ih]
      all_goals rfl
theorem len_erase {α : Type} : ∀ (l : List α) (i : Nat), (l.eraseIdx i).length ≤ l.length
  | [], _ => Nat.le_refl _
  | _ :: _, 0 => Nat.le_succ _
  | _ :: r, i + 1 => Nat.succ_le_succ (len_erase r i)
section
variable {X : Cx} {pins : List (Addr × Obj)} {σ : St} {H : Hp} {s : Shared} {l b : Addr} {xs ys zs : List V}

/-! ### the two steps: a tracked list is rewritten, a new list is laid -/
theorem Inv.lset {its its' : List Value} {n : Nat} {f : Array Value → Array Value} {t' : Nat} (I : Inv X pins σ H s) (hH : H l = some (.lst xs))
    (e : s.heap.get? l = some { cls := .type "list", data := .seq its.toArray n }) (hf : f its.toArray = its'.toArray) (hv : Vals ys its') (hz : ys.length ≤ sizeLine) :
    Inv X pins σ (upd H l (.lst ys)) { s with heap := s.heap.update l (Obj.mapSeq f), toks := t' } := by
  have q := PySem.IsL.update e f
  rw [hf] at q
  refine I.write (x := l) (e := l) (by rw [hH]; exact trivial) (.inl rfl) (fun b' u hb hu => (Heap.get?_update_other s.heap (Obj.mapSeq f) (Ne.symm hb)).trans hu) ⟨_, q⟩ ?_
  exact ⟨hz, its', _, hv, q⟩
theorem Inv.lnew {its : List Value} {t' : Nat} (I : Inv X pins σ H s) (hv : Vals ys its) (hz : ys.length ≤ sizeLine) :
    Inv X pins σ (upd H s.heap.objs.size (.lst ys)) { s with heap := s.heap.push { cls := .type "list", data := .seq its.toArray }, toks := t' } :=
  I.laid (fun _ _ q => Heap.get?_push_of_some _ q) (Nat.le_refl _) ⟨hz, its, 0, hv, Heap.get?_push_size _ rfl⟩
theorem Inv.fresh (I : Inv X pins σ H s) : H s.heap.objs.size = none := I.hok.fresh (Nat.le_refl _)
theorem Inv.lstM (I : Inv X pins σ H s) (hH : H l = some (.lst xs)) : xs.length ≤ sizeLine ∧ ∃ (its : List Value) (n : Nat), Vals xs its ∧ xs.length = its.length ∧ s.heap.get? l = some { cls := .type "list", data := .seq its.toArray n } := by
  obtain ⟨z, its, n, r, e⟩ := I.hok l _ hH
  exact ⟨z, its, n, r, r.length, e⟩

theorem notLongL {n : Nat} (h : n ≤ sizeLine) : Builtin.List.listTooLong n = false := by
  unfold Builtin.List.listTooLong
  exact decide_eq_false (by omega)
end

section
variable {X : Cx}

/-! ### methods -/
def rAppend : V → List V → Hp → VK → Prop := fun x vs H Q => ∃ l xs y, x = .ref l ∧ vs = [y] ∧ H l = some (.lst xs) ∧ xs.length < sizeLine ∧ Q .non (upd H l (.lst (xs ++ [y])))
theorem mt_append : MtM X "list.append" rAppend := by
  intro pins s σ H x vs v us Q I rx rv h
  obtain ⟨l, xs, y, rfl, rfl, hH, hz, q⟩ := h
  cases rx
  obtain ⟨u, rfl, ru⟩ := rv.one
  obtain ⟨z, its, n, r, hl, e⟩ := I.lstM hH
  refine call_meets F.slot_list_append ⟨_, e, rfl⟩ F.entry_list_append (F.args_list_append_2 _ _) (PySem.list_append l its.toArray n u (by rw [List.size_toArray]; omega)) ⟨e, ?_⟩
  refine ⟨.non, _, I.lset (its' := its ++ [u]) hH e (by simp) (r.append (.cons ru .nil)) ?_, rfl, q⟩
  rw [List.length_append, List.length_singleton]
  omega

def rExtend : V → List V → Hp → VK → Prop := fun x vs H Q => ∃ l b xs zs, x = .ref l ∧ vs = [.ref b] ∧ H l = some (.lst xs) ∧ H b = some (.lst zs) ∧ xs.length + zs.length ≤ sizeLine ∧ Q .non (upd H l (.lst (xs ++ zs)))
theorem mt_extend : MtM X "list.extend" rExtend := by
  intro pins s σ H x vs v us Q I rx rv h
  obtain ⟨l, b, xs, zs, rfl, rfl, hH, hB, hz, q⟩ := h
  cases rx
  obtain ⟨u, rfl, ru⟩ := rv.one
  cases ru
  obtain ⟨z, its, n, r, hl, e⟩ := I.lstM hH
  obtain ⟨z2, its2, n2, r2, hl2, e2⟩ := I.lstM hB
  have hsz : its.toArray.size + its2.toArray.size ≤ sizeLine := by rw [List.size_toArray, List.size_toArray]; omega
  have hlong : ¬ (!its.toArray.isEmpty && Builtin.List.listTooLong (its.toArray.size + its2.toArray.size)) = true := by
    rw [notLongL hsz, Bool.and_false]
    exact Bool.false_ne_true
  refine call_meets F.slot_list_extend ⟨_, e, rfl⟩ F.entry_list_extend (F.args_list_extend_2 _ _)
    (AutoSeq1.list_extend_list_list_0 l its.toArray n b its2.toArray n2 hlong (by rw [List.size_toArray]; omega) (by omega)) ⟨e, e2, ?_⟩
  refine ⟨.non, _, I.lset (its' := its ++ its2) hH e (by simp) (r.append r2) ?_, rfl, q⟩
  rw [List.length_append]
  omega

def rPop : V → List V → Hp → VK → Prop := fun x vs H Q => ∃ l xs y, x = .ref l ∧ vs = [] ∧ H l = some (.lst xs) ∧ xs[xs.length - 1]? = some y ∧ Q y (upd H l (.lst xs.dropLast))
theorem mt_pop : MtM X "list.pop" rPop := by
  intro pins s σ H x vs v us Q I rx rv h
  obtain ⟨l, xs, y, rfl, rfl, hH, hy, q⟩ := h
  cases rx
  have hus := rv.zero
  subst hus
  obtain ⟨z, its, n, r, hl, e⟩ := I.lstM hH
  obtain ⟨u, hu, ru⟩ := r.get hy
  have hy' : its.toArray[its.toArray.size - 1]? = some u := by
    show its.toArray[its.length - 1]? = some u
    rw [← Array.getElem?_toList, ← hl]
    exact hu
  refine call_meets F.slot_list_pop ⟨_, e, rfl⟩ F.entry_list_pop (F.args_list_pop_1 _) (MeetsSeq.list_pop_last l its.toArray n u hy' (by rw [List.size_toArray]; omega)) ⟨e, ?_⟩
  refine ⟨y, _, I.lset (its' := its.dropLast) hH e ?_ r.dropLast ?_, ru, q⟩
  · show its.toArray.eraseIdxIfInBounds (its.toArray.size - 1) = its.dropLast.toArray
    rw [List.size_toArray, List.eraseIdxIfInBounds_toArray, erase_last]
  · rw [List.length_dropLast]
    omega

def rPopAt : V → List V → Hp → VK → Prop := fun x vs H Q => ∃ l xs i k y, x = .ref l ∧ vs = [.int i] ∧ H l = some (.lst xs) ∧ -(2 ^ 63) ≤ i ∧ i < 2 ^ 63 ∧ seqIndex? i xs.length = some k ∧ xs[k]? = some y ∧ Q y (upd H l (.lst (xs.eraseIdx k)))
theorem mt_popAt : MtM X "list.pop" rPopAt := by
  intro pins s σ H x vs v us Q I rx rv h
  obtain ⟨l, xs, i, k, y, rfl, rfl, hH, h1, h2, hk, hy, q⟩ := h
  cases rx
  obtain ⟨u, rfl, ru⟩ := rv.one
  obtain ⟨t, rfl⟩ := ru
  obtain ⟨z, its, n, r, hl, e⟩ := I.lstM hH
  obtain ⟨w, hw, rw'⟩ := r.get hy
  refine call_meets F.slot_list_pop ⟨_, e, rfl⟩ F.entry_list_pop (F.args_list_pop_2 _ _)
    (MeetsSeq.list_pop_at l its.toArray n i t k w (fitsIndex_both h1 h2) (by rw [List.size_toArray, ← hl]; exact hk) (by rw [← Array.getElem?_toList]; exact hw) (by rw [List.size_toArray]; omega)) ⟨e, ?_⟩
  refine ⟨y, _, I.lset (its' := its.eraseIdx k) hH e ?_ (r.eraseIdx k) ?_, rw', q⟩
  · show its.toArray.eraseIdxIfInBounds k = (its.eraseIdx k).toArray
    rw [List.eraseIdxIfInBounds_toArray]
  · have := len_erase xs k
    omega

/-! ### list + list, list += list, list * int -/
def rCat : R2 := fun x y H Q => ∃ l b xs zs, x = .ref l ∧ y = .ref b ∧ H l = some (.lst xs) ∧ H b = some (.lst zs) ∧ xs.length + zs.length ≤ sizeLine ∧ ∀ p, H p = none → Q (.ref p) (upd H p (.lst (xs ++ zs)))
theorem op_cat : OpR X (binaryOp .Add) rCat := by
  intro pins s σ H x y v u Q I rx ry h
  obtain ⟨l, b, xs, zs, rfl, rfl, hH, hB, hz, q⟩ := h
  cases rx
  cases ry
  obtain ⟨z, its, n, r, hl, e⟩ := I.lstM hH
  obtain ⟨z2, its2, n2, r2, hl2, e2⟩ := I.lstM hB
  refine PySem.P.add_list e e2 ?_ (by rw [List.size_toArray, List.size_toArray]; omega)
  have ea : its.toArray ++ its2.toArray = (its ++ its2).toArray := by simp
  rw [ea]
  exact ⟨.ref _, _, I.lnew (t' := s.toks) (r.append r2) (by rw [List.length_append]; omega), rfl, q _ I.fresh⟩
/-! ### del xs[i] -/
end

/-! ### xs[a:b] = ys -/
section
variable {prog : Program} {w : World} {A : Around} {E : Value → Shared → Prop} {s : Shared}
theorem bounds_run {a c n : Nat} (hac : a ≤ c) (hc : c ≤ n) : sliceBounds (some (a : Int)) (some (c : Int)) none n = ((a : Int), (c : Int), 1) := by
  simp only [sliceBounds, Option.getD_none]
  have h1 : ¬ ((a : Int) < 0) := by omega
  have h2 : ¬ ((c : Int) < 0) := by omega
  simp only [h1, h2, if_false, show (1 : Int) > 0 by decide, if_true]
  congr 1
  · omega
  · congr 1; omega
set_option maxRecDepth 100000 in
/-- list.__setitem__ with a slice of step one and another list -/
theorem setItem_slice {l b sl : Addr} {items new : Array Value} {n n2 : Nat} {vl vu : Value} {a c : Nat} {Q : Unit → Shared → Prop}
    (e : s.heap.get? l = some { cls := .type "list", data := .seq items n }) (e2 : s.heap.get? b = some { cls := .type "list", data := .seq new n2 }) (hne : l ≠ b)
    (hs : s.heap.IsSliceOf sl vl vu .none) (pl : IsPart vl (some (a : Int))) (pu : IsPart vu (some (c : Int))) (hac : a ≤ c) (hc : c ≤ items.size)
    (hsz : items.size + new.size ≤ sizeLine) (h : Q () { s with heap := s.heap.update l (Obj.mapSeq fun xs => xs.extract 0 a ++ new ++ xs.extract c xs.size) }) :
    wpAny (model prog w) A (setItem (.ref l) (.ref sl) (.ref b)) Q E s := by
  have hl : s.heap.IsList l items := PySem.IsL.isList e
  have hb : s.heap.IsList b new := PySem.IsL.isList e2
  obtain ⟨os, hos, hcs, hds⟩ := id hs
  have hTs : s.TypeIs (.ref sl) "slice" := ⟨os, hos, hcs⟩
  have hstep : ¬ ((rawPart none == rawInt 0) = true) := Bool.false_ne_true
  have hsame : Builtin.List.listSameRef (.ref l) (.ref b) = false := by
    unfold Builtin.List.listSameRef
    exact beq_eq_false_iff_ne.mpr hne
  have hmax : (max (a : Int) (c : Int)).toNat = c := by omega
  have hz' : ((fun xs : Array Value => xs.extract 0 a ++ new ++ xs.extract c xs.size) items).size ≤ sizeLine + 1 := by
    simp only [Array.size_append, Array.size_extract]
    omega
  unfold setItem
  try with_reducible refine wpAny_holding ?_
  first | refine wpAny_bind (wpAny_pure ?_) | skip
  refine wpAny_bind (wpAny_sequenceKey hl.typeIs (by decide) ?_)
  refine wpAny_bind (wpAny_callSpecial?_slot (name := Str.ofString "__setitem__") hl.typeIs slot_list_setitem
    (wpAny_call_entry slot_list_setitem hl.typeIs entry_list_setitem ?_ (args_list_setitem _ _ _)))
  show wpAny _ _ (Builtin.List.listSubscript? (.ref sl) >>= _) _ _ s
  refine wpAny_bind ?_
  unfold Builtin.List.listSubscript?
  refine wpAny_bind (wpAny_specialOf hTs slice_no_index ?_)
  simp only [Option.isNone_none, if_true]
  refine wpAny_pure ?_
  show wpAny _ _ (typeOf (.ref sl) >>= _) _ _ s
  refine wpAny_bind (wpAny_typeOf hTs ?_)
  first
    | rw [if_neg (by decide)]
    | refine PySem.W.KFB.if_not (by decide) ?_
  rw [listSliceParts_eq]
  refine wpAny_bind (wpAny_bind (wpAny_field hos hds (x := .none) rfl (wpAny_bind (wpAny_listPart .none ?_))))
  rw [if_neg hstep]
  refine wpAny_bind (wpAny_field hos hds (x := vl) rfl (wpAny_bind (wpAny_listPart pl ?_)))
  refine wpAny_bind (wpAny_field hos hds (x := vu) rfl (wpAny_bind (wpAny_listPart pu (wpAny_pure ?_))))
  first
    | simp only [hsame, Bool.false_eq_true, if_false]
    | refine PySem.W.KFB.if_not hsame ?_
    | (dsimp only
       rw [if_neg (by rw [hsame]; exact Bool.false_ne_true)])
  refine wpAny_bind (m := Builtin.List.listAllItems (.ref b) "must assign iterable to extended slice") ?_
  unfold Builtin.List.listAllItems
  refine wpAny_bind (wpAny_typeOf hb.typeIs ?_)
  first
    | refine PySem.W.KFB.if_so (by decide) ?_
    | rw [if_pos (by decide)]
    | simp only [beq_self_eq_true, Bool.true_or, if_true]
  unfold Builtin.List.listItems
  refine wpAny_bind (wpAny_seqItems e2 rfl (wpAny_pure ?_))
  refine wpAny_bind (wpAny_bind (wpAny_seqItems e rfl (wpAny_pure ?_)))
  refine wpAny_bind (wpAny_of_eq ((sliceIndices_raw (some (a : Int)) (some (c : Int)) none items.size (by simp)).trans (congrArg (pure : Int × Int × Int → Sem (Int × Int × Int)) (bounds_run hac hc))) ?_)
  show wpAny _ _ (if ((1 : Int) == 1) = true then _ else _) _ _ s
  rw [if_pos (by decide)]
  refine wpAny_bind (wpAny_rule ?_)
  first
    | simp only [notLongL hsz, Bool.false_eq_true, if_false]
    | refine PySem.W.KFB.if_not (notLongL hsz) ?_
  first | refine wpAny_bind (wpAny_pure ?_) | skip
  show wpAny _ _ (updateSeq l (fun xs => xs.extract 0 ((a : Int)).toNat ++ new ++ xs.extract (max (a : Int) (c : Int)).toNat xs.size) >>= _) _ _ s
  rw [hmax, Int.toNat_natCast]
  refine wpAny_bind (wpAny_updateSeq (hz := Nat.le_trans (Nat.le_add_right _ _) hsz) (_hz' := hz') e rfl ?_)
  refine wpAny_bind (wpAny_letGo ?_)
  first
    | exact wpAny_bind (wpAny_pure (wpAny_pure ⟨.none, rfl, wpAny_pure h⟩))
    | exact wpAny_pure ⟨.none, rfl, wpAny_pure h⟩
end

section
variable {X : Cx}
end
end L2

namespace Att
open PySem PySem.W PySem.Calls PyProof.Rows

/-! ### the script -/
theorem ints_of_wellAll {P : Params} {h : Heap} : ∀ (ns : List Int) (vs : List Value), WellAll P h vs (ns.map WData.int) → IntsAre vs ns := by
  intro ns
  induction ns with
  | nil =>
    intro vs w
    rw [List.map_nil] at w
    cases w
    exact .nil
  | cons n ns ih =>
    intro vs w
    rw [List.map_cons] at w
    cases w with
    | cons a b =>
      cases a
      exact .cons _ _ (ih _ b)

theorem script_of {l : OpenLaw} {n : Nat} (hn : l.most = some n) {P : Params} {h : Heap} {args : List WData} {vals : List Value}
    (hpre : l.row.toRowW.claim.pre args = true) (hwl : WellAll P h vals args) :
    ∃ a vs ns, vals = [Value.ref a] ∧ args = [WData.list (ns.map WData.int)] ∧ h.get? a = some { cls := .type "list", data := .seq vs.toArray } ∧ IntsAre vs ns ∧ ns.length ≤ n := by
  have hsh : WShape.hasAll [] args [.list .int] = true := (pre_splitW hpre).1
  have hc : l.pre.holds [] { args := args } = true := (pre_splitW hpre).2
  obtain ⟨d, r, rfl, h1, h2⟩ := hasAllW_cons hsh
  obtain rfl := hasAllW_nil h2
  obtain ⟨xs, rfl, h3⟩ := hasW_list h1
  obtain ⟨ns, rfl⟩ := items_int h3
  have hlen : ns.length ≤ n := by
    unfold OpenLaw.pre at hc
    have h4 : (WTm.not (.lt (.lit (.int (n : Int))) (.len (.arg 0)))).holds [] { args := [.list (ns.map .int)] } = true := by
      have h4 := (holds_andW hc).1
      rw [hn] at h4
      exact h4
    have h5 := condW_of h4 (w_not (w_lt w_lit (w_len_list (w_arg rfl))))
    rw [List.length_map] at h5
    refine Nat.le_of_not_lt fun q => ?_
    have q' : (n : Int) < ((ns.length : Nat) : Int) := by omega
    first
      | (rw [decide_eq_true q'] at h5; exact absurd h5 (by decide))
      | (simp at h5; omega)
  cases hwl with
  | cons w1 w2 =>
    cases w2
    cases w1 with
    | list ho hall => exact ⟨_, _, ns, rfl, rfl, ho, ints_of_wellAll ns _ hall, hlen⟩

theorem post_true (l : OpenLaw) (args : List WData) : l.row.toRowW.claim.post args (.bool true) args = true :=
  postW_of (r := l.row.toRowW) (X := (true == true))
    (show WShape.has [] (.bool true) .bool = true by first | rfl | decide | simp [WShape.has, WShape.arms, WShape.armsAll])
    (show (WTm.eq .res (.lit (.bool true))).value [] { args := args, res := some (.bool true), after := args } = some (.bool (true == true)) from w_eq_bool (w_res rfl) w_lit) rfl

/-! ### the attachment: holds_open's last premise (the goal 'hc' behind k_head) from a wpAny of the law's body -/
/-- the same from a codeAny of the CALL (for a layer whose function contracts speak of calls) -/
theorem attach_call {l : OpenLaw} {n : Nat} {q : Program} {loose : List Str} {XP : (Str → Option Value) → Heap → Prop} {YP : World → Heap → Prop} {d : DefRec}
    (hn : l.most = some n) (hdf : d.params.defaults = [])
    (call : ∀ (w : World) (s₀ s₁ : Shared) (mg mb : Str → Option Value) (fa : Addr) (o : Obj) (pm cd doc : Value) (a : Addr) (vs : List Value) (ns : List Int),
      Ground q loose [] XP w s₀ mg mb s₁.heap → YP w s₁.heap →
      s₁.heap.get? fa = some o → o.data = .func (docDef d.name d.params d.body d.scope pm cd doc) → s₁.heap.CodeRec cd d.name → mg d.name = some (.ref fa) →
      s₁.heap.get? a = some { cls := .type "list", data := .seq vs.toArray } → IntsAre vs ns → ns.length ≤ n → s₁.gens = #[] →
      codeAny (model l.prog w) callerA (.call (.ref fa) ⟨[.ref a], []⟩) (fun r s' => r = .ok (.ret (.bool true)) ∧ OldK s₁.heap s'.heap ∧ s'.os = s₁.os ∧ AllBare s'.gens) s₁) :
    WalkO q loose XP YP l.row.toRowW d [] (fun f vs => PySem.call f vs) := by
  intro w s₀ s₁ mg mb G Y fa o pm cd doc dV kV ho hd hcd hD hmg hg args vals as hpre hlay hrd hwl hlo
  obtain rfl : dV = .none := Dflts.none hD hdf
  obtain rfl : kV = .none := Dflts.noKw hD
  obtain ⟨a, vs, ns, rfl, rfl, hobj, hints, hlen⟩ := script_of hn hpre hwl
  refine enter_call (codeAny_mono (call w s₀ s₁ mg mb fa o pm cd doc a vs ns G Y ho (fd_plain hd) hcd hmg hobj hints hlen hg) fun r s' hq => ?_)
  obtain ⟨rfl, h2, h3, h4⟩ := hq
  exact ⟨.inl ⟨.bool true, .bool true, [], rfl, fun _ => rfl, .bool true, post_true l _, fun _ => ⟨List.Pairwise.nil, fun _ hm => (nomatch hm)⟩⟩, h2, h3, h4⟩

/-! ### rules over ANY heap (no ledger) from facts about the written part K: the library's own take a ledger (News) for what they write -/
section
variable {prog : Program} {w : World} {A : Around} {E : Value → Shared → Prop} {s : Shared} {K : Frag}

/-! the whole heap as the ledger: makes every rule that writes through a ledger a rule over any heap -/
def ledger (h : Heap) (L d : Addr) : List (Addr × Obj) := (List.range h.objs.size).filterMap fun a => if a = L ∨ a = d then none else (h.get? a).map fun o => (a, o)
end
end Att

namespace L2
open PySem PySem.Spec PyProof.Rows

theorem vals_ints : ∀ {vs : List Value} {ns : List Int}, IntsAre vs ns → Vals (ns.map V.int) vs
  | _, _, .nil => .nil
  | _, _, .cons n t h => .cons ⟨t, rfl⟩ (vals_ints h)

/-- nothing is tracked but the script, known to the object (or it is an object of the module) -/
def Only (H : Hp) : Prop := ∀ b, H b = none ∨ ∃ o xs, H b = some (.frz o (.lst xs))

/-- THE HEAD: the law's promise, at the heap behind the top. F, the promise of the law's def, may use that base is part of the heap (so K.In base, base.Ns mainGlobals mg stand in Mod) -/
theorem law_call {P : Program} {w : World} {K : PySem.W.Frag} {mg mb : Str → Option Value} {CX : CXT} {k : Nat} {fa a : Addr} {fd : FuncData} {x : Str} {sp : Sp} {s₁ : Shared} {vs : List Value} {ns : List Int}
    (KX : K.In s₁.heap) (hns : s₁.heap.Ns mainGlobals mg) (hb : s₁.heap.Ns builtinsNs mb) (hbb : ∀ x : Str, x ≠ "__name__" → mb x = bootBuiltins x) (hlim : s₁.heap.NoLimit) (hg : s₁.gens = #[])
    (ha : s₁.heap.get? a = some { cls := .type "list", data := .seq vs.toArray }) (hi : IntsAre vs ns) (hl : ns.length ≤ sizeLine) (hr : Room k callerA)
    (F : ∀ base : Heap, K.In base → base.Ns mainGlobals mg → FnOk P w K mg base CX k fa fd [x] sp) (hbind : ∀ (s : Shared) (u : Value), BindsTo s fd ⟨[u], []⟩ [(x, u)])
    (hsp : ∀ H : Hp, Only H → SqL K H a (ns.map V.int) → sp [.ref a] H (fun v _ => v = .bl true) fun _ _ _ => False)
    (hCX : ∀ H e s', CX [] H s₁ (fun _ _ _ => False) e s' → False) :
    codeAny (model P w) callerA (.call (.ref fa) ⟨[.ref a], []⟩) (fun r s' => r = .ok (.ret (.bool true)) ∧ OldK s₁.heap s'.heap ∧ s'.os = s₁.os ∧ AllBare s'.gens) s₁ := by
  have rv := vals_ints hi
  have lenV := hi.length
  -- from an abstract heap in which nothing but the script may be tracked
  have core : ∀ H : Hp, Only H → SqL K H a (ns.map V.int) → HOk P w H s₁.heap → (∀ b, H b ≠ none → b = a) → (H a ≠ none → K.lookup a = none) →
      codeAny (model P w) callerA (.call (.ref fa) ⟨[.ref a], []⟩) (fun r s' => r = .ok (.ret (.bool true)) ∧ OldK s₁.heap s'.heap ∧ s'.os = s₁.os ∧ AllBare s'.gens) s₁ := by
    intro H hO hS hok hA hK
    have base_of : ∀ {b : Addr} {o : Obj}, s₁.heap.get? b = some o → H b = none → (hidT s₁.heap H).get? b = some o := fun e n => hidT_get e n
    have noA : ∀ {b : Addr} {o : Obj} {es : Array DictEntry} {ep : Nat}, s₁.heap.get? b = some o → o.data = .dict es ep → H b = none := fun {b o es ep} e d => by
      cases q : H b with
      | none => rfl
      | some u =>
        have e' : b = a := hA b (by rw [q]; simp)
        subst e'
        rw [ha] at e; cases e
        have d' : Data.seq vs.toArray _ = Data.dict es ep := d
        cases d'
    have nsK : ∀ {b : Addr} {m : Str → Option Value}, s₁.heap.Ns b m → (hidT s₁.heap H).Ns b m := fun {b m} ⟨o, es, ep, e, d, r⟩ => ⟨o, es, ep, base_of e (noA e d), d, r⟩
    have hKb : K.In (hidT s₁.heap H) := fun b o e => base_of (KX b o e) (by
      cases q : H b with
      | none => rfl
      | some u =>
        have e' : b = a := hA b (by rw [q]; simp)
        subst e'
        rw [hK (by rw [q]; simp)] at e; cases e)
    have hM : Mod K mg (hidT s₁.heap H) := ⟨hKb, nsK hns, ⟨mb, nsK hb, hbb⟩, let ⟨mc, h1, h2⟩ := hlim; ⟨mc, nsK h1, h2⟩⟩
    have e0 : Env0 P w K mg (hidT s₁.heap H) callerA [] s₁ H := ⟨rfl, hM, fun b o e => of_hidT e, Nat.le_of_eq (hidT_size _ _), trivial, fun b hb => absurd (show b ∈ ([] : List Addr) from hb) (by simp), hok, .of_eq hg⟩
    refine codeAny_mono ((F _ hKb (nsK hns)).run callerA [] s₁ H ⟨[.ref a], []⟩ [.ref a] [.ref a] _ _ hr e0 (hbind s₁ (.ref a)) (.cons rfl .nil) (hsp H hO hS)) fun r s' h => ?_
    cases r with
    | error e => exact (hCX H e s' h).elim
    | ok fl =>
      cases fl with
      | next => exact False.elim h
      | brk => exact False.elim h
      | cont => exact False.elim h
      | ret u =>
        obtain ⟨v, H', os, bare, un, hok', r', q⟩ := h
        have q' : v = .bl true := q
        subst q'
        obtain rfl : u = Value.bool true := r'
        refine ⟨rfl, OldK.of_keep fun b o e => ?_, os, bare⟩
        cases q : H b with
        | none => exact un.keep b o e q (by intro z; exact absurd (show b ∈ ([] : List Addr) from z) (by simp)) (by simp)
        | some u =>
          rcases hO b with z | ⟨ob, xs, z⟩
          · rw [q] at z; cases z
          · have z2 := un.frzs b ob _ z
            obtain ⟨e1, _⟩ := hok b _ z
            obtain ⟨e2, _⟩ := hok' b _ z2
            rw [e] at e1; cases e1
            exact e2
  cases hk : K.lookup a with
  | some o =>
    -- the script is one of the module's own objects
    have e := KX a o hk
    rw [ha] at e
    cases e
    refine core (fun _ => none) (fun _ => .inl rfl) (.inr ⟨_, vs.toArray, _, hk, rfl, rfl, rfl, by rw [List.size_toArray, lenV]; exact hl, by simpa using rv⟩) (fun b u z => by have z' : (none : Option HO) = some u := z; cases z') (fun b z => absurd rfl z) fun z => absurd rfl z
  | none =>
    refine core (fun b => if b = a then some (.frz { cls := .type "list", data := .seq vs.toArray } (.lst (ns.map V.int))) else none) (fun b => ?_) (.inl (.inr ⟨{ cls := .type "list", data := .seq vs.toArray }, if_pos rfl⟩)) (fun b u z => ?_) (fun b z => ?_) fun _ => hk
    · by_cases hb : b = a
      · exact .inr ⟨_, _, if_pos hb⟩
      · exact .inl (if_neg hb)
    · by_cases hb : b = a
      · have z' := (if_pos hb).symm.trans z
        cases z'
        subst hb
        exact ⟨ha, by rw [List.length_map]; exact hl, vs, _, rv, ha⟩
      · have z' := (if_neg hb).symm.trans z
        cases z'
    · by_cases hb : b = a
      · exact hb
      · exact absurd (if_neg hb) z
end L2

namespace L2
open PySem PySem.Spec PyProof.Rows

abbrev KOf {K : PySem.W.Frag} {h : Heap} (_ : K.In h) : PySem.W.Frag := K

/-- the goal that k_head leaves (case hc), from the law's promise. F gives the function object fd (K's own) once, then the promise over every base -/
theorem walk_of {l : PySem.W.OpenLaw} {n k : Nat} {q : Program} {loose : List Str} {XP : (Str → Option Value) → Heap → Prop} {YP : World → Heap → Prop} {d : DefRec} {K : Params → PySem.W.Frag} {CX : World → CXT} {sp : World → Sp} {x : Str}
    (hn : l.most = some n) (hn2 : n ≤ sizeLine) (hdf : d.params.defaults = []) (hr : Room k callerA)
    (hY : ∀ (w : World) (h : Heap), YP w h → (K w.params).In h)
    (F : ∀ (w : World) (mg : Str → Option Value) (fa : Addr) (h : Heap), (K w.params).In h → h.Ns mainGlobals mg → mg d.name = some (.ref fa) →
      ∃ fd : FuncData, (∀ (s : Shared) (u : Value), BindsTo s fd ⟨[u], []⟩ [(x, u)]) ∧
        ∀ base : Heap, (K w.params).In base → base.Ns mainGlobals mg → FnOk l.prog w (K w.params) mg base (CX w) k fa fd [x] (sp w))
    (hsp : ∀ (w : World) (H : Hp) (a : Addr) (ns : List Int), ns.length ≤ n → Only H → SqL (K w.params) H a (ns.map V.int) → sp w [.ref a] H (fun v _ => v = .bl true) fun _ _ _ => False)
    (hCX : ∀ (w : World) (H : Hp) (s : Shared) (e : Value) (s' : Shared), CX w [] H s (fun _ _ _ => False) e s' → False) :
    PySem.W.WalkO q loose XP YP l.row.toRowW d [] (fun f vs => PySem.call f vs) := by
  refine Att.attach_call hn hdf fun w s₀ s₁ mg mb fa o pm cd doc a vs ns G Y ho hd hcd hmg hobj hints hlen hg => ?_
  have KX := hY w _ Y
  obtain ⟨fd, hb, hF⟩ := F w mg fa _ KX G.T.g hmg
  exact law_call KX G.T.g G.T.b G.T.builtins G.T.nolimit hg hobj hints (Nat.le_trans hlen hn2) hr hF hb (fun H hO hS => hsp w H a ns hlen hO hS) fun H e s' => hCX w H s₁ e s'
end L2

/- THE LAST THEOREM (shape; LID, My.* are yours):
   My.Adr: a structure of the addresses that your layer names (classes, functions); My.Txt K t: a structure (Prop) of the equations over K;
   My.txt_mk : {K} {implicit addresses ..} (e1 : nsIn K mainGlobals "law" = some (some (.ref f))) (e2 : K.lookup f = some ⟨oc, od, .func (fnOf "law" "law" params body scope dV kV doc pm an cdv ct), sl⟩) (e3 : codeIn K cdv "law" = true) .. : ∃ t, My.Txt K t

set_option maxRecDepth 100000 in
set_option maxHeartbeats 0 in
theorem PySem.Challenge.cw_LID_holds : PySem.Challenge.rw_LID.Holds := by
  w_on; o_law; k_head; (case hw => w_witness2)
  k_fill
  refine L2.walk_of (l := PySem.Challenge.rw_LID) (n := 63) (k := 40) (x := "script") (CX := fun w => ..) (sp := fun _ => My.sp_law) rfl (by decide) rfl ⟨rfl, by decide, by decide⟩ (fun w h Y => PySem.W.kIn_of Y) ?F ?S ?C
  case F =>
    intro w mg fa h KX G hmg
    have T : ∃ t, My.Txt (L2.KOf KX) t := by
      dsimp only [L2.KOf]                          -- K must stand as «<heap const> w.params» for k_is
      refine' My.txt_mk ?e1 ?e2 ?e3 ..
      (case e1 => PySem.W.k_is)                    -- in the order: a name -> its address -> its object -> its parts
      (case e2 => PySem.W.k_is)
      ..
    obtain ⟨t, T⟩ := T
    have e0 := hmg.symm.trans (PySem.W.mg_of KX G T.law)
    cases e0                                       -- fa is the law's own address
    exact ⟨_, fun s u => .of_eq rfl, fun base kb nb => My.law_fn T kb nb⟩     -- if «.of_eq rfl» comes too early: refine' ⟨_, ?b, fun base kb nb => My.law_fn T kb nb⟩; exact fun s u => .of_eq rfl
  case S => exact fun w H a ns hl hO hS => ..
  case C => exact ..
(the tactic k_is has no namespace: write k_is) -/

/-! SHORT WORDS over the layer: a def of the text, its body, what a loop and a test want. -/
namespace L2
open PySem PySem.Spec PyProof.Rows

/-! ### the text by places -/
def defArgs (s : Stmt) : Arguments := match s with
  | .FunctionDef _ a _ _ _ _ _ _ _ _ => a
  | _ => { posonlyargs := [], args := [], vararg := none, kwonlyargs := [], kw_defaults := [], kwarg := none, defaults := [] }
def defBody (s : Stmt) : List Stmt := match s with
  | .FunctionDef _ _ b _ _ _ _ _ _ _ => b
  | _ => []
def defScope (s : Stmt) : Scope := match s with
  | .FunctionDef _ _ _ _ _ _ sc _ _ _ => sc
  | _ => { kind := .function, names := [], isGenerator := false, isCoroutine := false }

/-! ### no exception leaves a def -/
abbrev CX0 : CXT := fun _ _ _ _ _ _ => False
abbrev E0 : XK := fun _ _ _ => False
theorem pass0 {X : Cx} : Passes CX0 X E0 := fun _ _ _ _ _ _ _ h => h.elim

/-! ### a def (or method) of the text as it stands behind the top -/
structure Fun (K : PySem.W.Frag) (x qual : Str) (st : Stmt) (f : Addr) (fd : FuncData) : Prop where
  ex : ∃ (oc : Value) (od : Option Addr) (kV doc pm : Value) (an : Option Addr) (cdv ct : Value) (osl : Array (Option Value)),
    fd = PySem.W.fnOf x qual (defArgs st) (defBody st) (defScope st) .none kV doc pm an cdv ct ∧ K.lookup f = some ⟨oc, od, .func fd, osl⟩ ∧ PySem.W.codeIn K cdv qual = true
  kp : PySem.W.keepIn K (.ref f) = true
section
variable {P : Program} {w : World} {K : PySem.W.Frag} {mg : Str → Option Value} {base : Heap}
/-- THE RULE for a def: its body as a term of rules, and the reading of that term -/
theorem Fun.ok {x qual : Str} {st : Stmt} {f : Addr} {fd : FuncData} {N ps : List Str} {k : Nat} {sp : Sp} (F : Fun K x qual st f fd) (S : FnScope N ps (defScope st)) (len : ∀ vs H Q E, sp vs H Q E → vs.length = ps.length)
    (hbody : ∀ (cdv : Value) (A : Around) (outer : List Env) (s : Shared) (H : Hp) (vs : List V) (Q : VK) (E : XK), Room k (A.deeper (envOfC qual (defScope st) s.heap.objs.size f cdv)) → sp vs H Q E →
      ∃ t, PSs (cxOf CX0 P w K mg base N qual (defScope st) f cdv A outer s H E).nox (defBody st) t ∧ t { nx := fun _ H' => Q .non H', rt := Q } (start N vs) H) : FnOk P w K mg base CX0 (k + 1) f fd ps sp := by
  obtain ⟨oc, od, kV, doc, pm, an, cdv, ct, osl, rfl, lk, hcd⟩ := F.ex
  refine fn_of lk hcd S len fun A outer s H vs Q E hr hsp => ?_
  obtain ⟨t, h, q⟩ := hbody cdv A outer s H vs Q E hr hsp
  exact ⟨t, h.nox, q⟩
/-- how its arguments bind (no defaults): h is «fun _ _ _ _ _ _ us hl => match us, hl with | [_, _], _ => rfl», one _ a parameter -/
theorem Fun.binds {x qual : Str} {st : Stmt} {f : Addr} {fd : FuncData} {ps : List Str} (F : Fun K x qual st f fd)
    (h : ∀ (kV doc pm : Value) (an : Option Addr) (cdv ct : Value) (us : List Value), us.length = ps.length → bindArgs (PySem.W.fnOf x qual (defArgs st) (defBody st) (defScope st) .none kV doc pm an cdv ct) ⟨us, []⟩ = pure (ps.zip us)) : Binds K fd ps [] := by
  obtain ⟨oc, od, kV, doc, pm, an, cdv, ct, osl, rfl, lk, hcd⟩ := F.ex
  exact .all (h kV doc pm an cdv ct)
theorem fun_mk {x qual : Str} {st : Stmt} {f : Addr} {oc : Value} {od an : Option Addr} {osl : Array (Option Value)} {kV doc pm cdv ct : Value} (l : K.lookup f = some ⟨oc, od, .func (PySem.W.fnOf x qual (defArgs st) (defBody st) (defScope st) .none kV doc pm an cdv ct), osl⟩)
    (c : PySem.W.codeIn K cdv qual = true) (k : PySem.W.keepIn K (.ref f) = true) : Fun K x qual st f (PySem.W.fnOf x qual (defArgs st) (defBody st) (defScope st) .none kV doc pm an cdv ct) := ⟨⟨oc, od, kV, doc, pm, an, cdv, ct, osl, rfl, l, c⟩, k⟩
end
/-! ### expressions in short: the name that stands in the i-th slot -/
section
variable {X : Cx}
theorem pv (i : Nat) {x : Str} {pos : Pos} (hN : X.N[i]? = some x := by rfl) (hv : Vis X.env.scope x := by first | exact Or.inl rfl | exact Or.inr (Or.inl rfl) | exact Or.inr (Or.inr rfl)) (hd : (x == ("__debug__" : Str)) = false := by decide)
    (hcd : (x == ("__classdict__" : Str)) = false := by decide) : PE X (.Name x pos) (tVar i) := pe_var hN hv hd hcd
end

/-! ### tests -/
theorem ite2 {c A B : Prop} [Decidable c] (h1 : c → A) (h2 : ¬ c → B) : if c then A else B := by
  by_cases h : c
  · rw [if_pos h]
    exact h1 h
  · rw [if_neg h]
    exact h2 h
/-! ### heaps -/
/-- all that was tracked is as it was -/
def Same (H H' : Hp) : Prop := ∀ b o, H b = some o → H' b = some o
theorem Same.refl (H : Hp) : Same H H := fun _ _ h => h
theorem Same.trans {H H1 H2 : Hp} (a : Same H H1) (b : Same H1 H2) : Same H H2 := fun c o h => b c o (a c o h)
theorem Same.free {H H' : Hp} (e : Same H H') {l : Addr} (h : H' l = Option.none) : H l = Option.none := by
  cases q : H l with
  | none => rfl
  | some o =>
    rw [e l o q] at h
    cases h
theorem Same.seq {K : PySem.W.Frag} {H H' : Hp} {a : Addr} {xs : List V} (e : Same H H') (h : SqL K H a xs) : SqL K H' a xs := by
  rcases h with (h | ⟨o, h⟩) | h
  · exact .inl (.inl (e _ _ h))
  · exact .inl (.inr ⟨o, e _ _ h⟩)
  · exact .inr h

end L2

/-! MORE RULES over the hand layer: a comprehension with one clause, isinstance, all, is True, empty tuples and lists compared, // by a great number. -/
namespace L2
open PySem PySem.Spec PyProof.Rows

/-! ### numbers -/
section
variable {X : Cx}
theorem op_fdivB : OpR X (binaryOp .FloorDiv) (rI (fun _ j => 0 < j ∧ j.natAbs.log2 < 9000) fun i j => .int (i / j)) := opI fun i j _ _ _ _ _ hc q => by
  have e : i.fdiv j = i / j := Int.fdiv_eq_ediv_of_nonneg i (Int.le_of_lt hc.1)
  refine floordiv_int (by have := hc.1; omega) ?_ (.inl (PyProof.noPylong_of_log2 hc.2))
  rw [e]
  exact q

/-! ### is, with truths -/
/-! ### all of truths -/
theorem bools_of : ∀ {bs : List Bool} {us : List Value}, Vals (bs.map V.bl) us → LSm.BoolsAre us bs
  | [], _, .nil => .nil
  | b :: bs, _, .cons r t => by
    cases (show _ = Value.bool b from r)
    exact .cons b (bools_of t)
theorem call_all (hc : X.calm = true) : CallR X (.builtin "all") (fun xs H Q => ∃ (p : Addr) (bs : List Bool), xs = [.ref p] ∧ SqL X.K H p (bs.map V.bl) ∧ Q (.bl (bs.all id)) H) := by
  intro pins s σ H xs us Q I r h
  obtain ⟨p, bs, rfl, hq, q⟩ := h
  obtain ⟨u, rfl, ru⟩ := vals1 r
  cases (show u = Value.ref p from ru)
  obtain ⟨its, rv, pl, hz⟩ := I.list hq
  have hb := bools_of rv
  have hil : s.heap.IsList p its.toArray := pl.isList
  have plt : p < s.heap.objs.size := by obtain ⟨_, e, _⟩ := hil; exact Heap.lt_size e
  refine call_all_walk (wpAny_pyIter_list hil ⟨s.heap.objs.size, [s.heap.objs.size, p], [s.heap.objs.size], its.toArray.size, _, _, fun i => (bs[i]?).getD true, rfl,
    Walks.list (A := X.A.in1) (I.ok.hd hc) _ p (Nat.ne_of_lt plt) its.toArray, ⟨⟨_, Heap.get?_push_size _ rfl, rfl, rfl⟩, hil.push _⟩, ?_, ?_⟩)
  · intro i v s' Q' E' hP hT
    obtain ⟨b, e, rfl⟩ := hb.get i v (by simpa using hP)
    simp only [e, Option.getD_some] at hT
    exact wpAny_truthy_bool hT
  · intro h' tk hk
    have e2 : ((List.range its.toArray.size).all fun i => (bs[i]?).getD true) = bs.all id := by
      rw [List.size_toArray, hb.length]
      exact LSm.range_all bs
    rw [e2]
    exact ⟨.bl _, H, I.kept (LSm.kept_iter hk), rfl, q⟩

/-! ### an empty tuple, an empty list, on the right of == -/
/-! ### isinstance, by the value's own sort -/
def tyn (H : Hp) : V → Option String
  | .non => some "NoneType"
  | .bl _ => some "bool"
  | .int _ => some "int"
  | .str _ => some "str"
  | .ref a => match H a with
    | some (.lst _) => some "list"
    | some (.tup _) => some "tuple"
    | some (.dK _) => some "dict"
    | _ => none
  | _ => none
theorem TyOf.byName {K : PySem.W.Frag} {H : Hp} {v : V} {T : String} (h : tyn H v = some T) : TyOf K H v (.type T) := by
  cases v with
  | non => cases h; exact .non
  | bl b => cases h; exact .bl b
  | int i => cases h; exact .int i
  | str x => cases h; exact .str x
  | ref a =>
    simp only [tyn] at h
    cases e : H a with
    | none => rw [e] at h; cases h
    | some o =>
      rw [e] at h
      cases o <;> first | (cases h; first | exact .lst e | exact .tup e | exact .dK e) | cases h
  | _ => cases h
theorem kit_tuple (K : PySem.W.Frag) {T : String} (h : T ∈ ["NoneType", "bool", "int", "str", "list", "tuple", "dict"]) : PySem.W.kitOne K (.type T) (.type "tuple") = some (T == "tuple") := by
  simp only [List.mem_cons, List.not_mem_nil, or_false] at h
  rcases h with rfl | rfl | rfl | rfl | rfl | rfl | rfl <;> kernel_rfl
theorem kit_int (K : PySem.W.Frag) {T : String} (h : T ∈ ["NoneType", "bool", "int", "str", "list", "tuple", "dict"]) : PySem.W.kitOne K (.type T) (.type "int") = some (T == "int" || T == "bool") := by
  simp only [List.mem_cons, List.not_mem_nil, or_false] at h
  rcases h with rfl | rfl | rfl | rfl | rfl | rfl | rfl <;> kernel_rfl
theorem kit_bool (K : PySem.W.Frag) {T : String} (h : T ∈ ["NoneType", "bool", "int", "str", "list", "tuple", "dict"]) : PySem.W.kitOne K (.type T) (.type "bool") = some (T == "bool") := by
  simp only [List.mem_cons, List.not_mem_nil, or_false] at h
  rcases h with rfl | rfl | rfl | rfl | rfl | rfl | rfl <;> kernel_rfl
theorem tyn_mem {H : Hp} {v : V} {T : String} (h : tyn H v = some T) : T ∈ ["NoneType", "bool", "int", "str", "list", "tuple", "dict"] := by
  cases v with
  | non => cases h; simp
  | bl b => cases h; simp
  | int i => cases h; simp
  | str x => cases h; simp
  | ref a =>
    simp only [tyn] at h
    cases e : H a with
    | none => rw [e] at h; cases h
    | some o =>
      rw [e] at h
      cases o <;> first | (cases h; simp; done) | cases h
  | _ => cases h
theorem call_isinst : CallR X (.builtin "isinstance") (fun xs H Q => ∃ x n t b, xs = [x, .ty n] ∧ TyOf X.K H x t ∧ PySem.W.kitOne X.K t (.type n) = some b ∧ Q (.bl b) H) := by
  intro pins s σ H xs us Q I r h
  obtain ⟨x, n, t, b, rfl, ty, e, q⟩ := h
  obtain ⟨u, w', rfl, ru, rw'⟩ := vals2 r
  cases (show w' = Value.type n from rw')
  exact isinst_ok I ru ty e fun tk => ⟨.bl b, H, I.tok tk, rfl, q⟩
/-- isinstance(x, tuple), (x, int), (x, bool) -/
theorem call_isTup : CallR X (.builtin "isinstance") (fun xs H Q => ∃ x T, xs = [x, .ty "tuple"] ∧ tyn H x = some T ∧ Q (.bl (T == "tuple")) H) :=
  fun pins s σ H xs us Q I r ⟨x, T, e, hT, q⟩ => call_isinst pins s σ H xs us Q I r ⟨x, _, _, _, e, .byName hT, kit_tuple _ (tyn_mem hT), q⟩
theorem call_isInt : CallR X (.builtin "isinstance") (fun xs H Q => ∃ x T, xs = [x, .ty "int"] ∧ tyn H x = some T ∧ Q (.bl (T == "int" || T == "bool")) H) :=
  fun pins s σ H xs us Q I r ⟨x, T, e, hT, q⟩ => call_isinst pins s σ H xs us Q I r ⟨x, _, _, _, e, .byName hT, kit_int _ (tyn_mem hT), q⟩
theorem call_isBool : CallR X (.builtin "isinstance") (fun xs H Q => ∃ x T, xs = [x, .ty "bool"] ∧ tyn H x = some T ∧ Q (.bl (T == "bool")) H) :=
  fun pins s σ H xs us Q I r ⟨x, T, e, hT, q⟩ => call_isinst pins s σ H xs us Q I r ⟨x, _, _, _, e, .byName hT, kit_bool _ (tyn_mem hT), q⟩
end

/-! ### t + u of tuples, whatever is empty -/
section
variable {X : Cx}
end
end L2

/-! A LIST COMPREHENSION of one clause and at most one test, from which no exception leaves. -/
namespace L2
open PySem PySem.Spec PyProof.Rows

/-- the context of a comprehension's block -/
def cxComp (X : Cx) (scope : Scope) (cl : List (Str × Addr)) (C : Addr) (N : List Str) (s : Shared) (H : Hp) (ex : List Addr) : Cx :=
  { X with N := N, s₀ := s, H₀ := H, env := compEnvC scope cl C X.env, outer := X.stack, ex := ex, fn := fun _ => false, pn := [], xe := fun _ _ => False }

/-! ### the closure -/
theorem closure_has {scope : Scope} {env : Env} (hf : ∀ y ∈ scope.names, y.2 = .free → ∃ c, env.cells.lookup y.1 = some c) :
    ∃ cl, closureFor scope env = pure cl ∧ (∀ x c, cl.lookup x = some c → env.cells.lookup x = some c) ∧ ∀ y ∈ scope.names, y.2 = .free → cl.lookup y.1 = env.cells.lookup y.1 := by
  have aux : ∀ (names : List (Str × NameKind)) (acc : List (Str × Addr)), (∀ y ∈ names, y.2 = .free → ∃ c, env.cells.lookup y.1 = some c) → (∀ x c, acc.lookup x = some c → env.cells.lookup x = some c) →
      ∃ cl, (forIn names acc fun x r => match x with
          | (name, kind) => if (kind == NameKind.free) = true then (cellOf env name >>= fun c => pure (ForInStep.yield ((name, c) :: r))) else pure (ForInStep.yield r) : Sem (List (Str × Addr))) = pure cl ∧
        (∀ x c, cl.lookup x = some c → env.cells.lookup x = some c) ∧ (∀ x c, acc.lookup x = some c → cl.lookup x = some c) ∧ ∀ y ∈ names, y.2 = .free → cl.lookup y.1 = env.cells.lookup y.1 := by
    intro names
    induction names with
    | nil => intro acc _ ha; exact ⟨acc, rfl, ha, fun _ _ e => e, fun y hy => absurd hy (by simp)⟩
    | cons z r ih =>
      intro acc hn ha
      obtain ⟨n, k⟩ := z
      have hr : ∀ y ∈ r, y.2 = .free → ∃ c, env.cells.lookup y.1 = some c := fun y hy => hn y (List.mem_cons_of_mem _ hy)
      by_cases hk : k = .free
      · subst hk
        obtain ⟨c, hc⟩ := hn (n, .free) List.mem_cons_self rfl
        have hc : env.cells.lookup n = some c := hc
        have ha' : ∀ x d, ((n, c) :: acc).lookup x = some d → env.cells.lookup x = some d := fun x d e => by
          rw [List.lookup_cons] at e
          cases hx : x == n with
          | true =>
            rw [hx] at e
            have e' : c = d := Option.some.inj e
            have ex : x = n := eq_of_beq hx
            rw [ex, ← e']; exact hc
          | false => rw [hx] at e; exact ha x d e
        obtain ⟨cl, e1, e2, e3, e4⟩ := ih ((n, c) :: acc) hr ha'
        have hcell : cellOf env n = pure c := by unfold cellOf; rw [hc]
        refine ⟨cl, ?_, e2, fun x d e => ?_, fun y hy hy2 => ?_⟩
        · rw [List.forIn_cons]
          show ((if (NameKind.free == NameKind.free) = true then (cellOf env n >>= fun c => pure (ForInStep.yield ((n, c) :: acc))) else pure (ForInStep.yield acc)) >>= _) = _
          rw [if_pos (by decide : (NameKind.free == NameKind.free) = true), hcell]
          exact e1
        · have h1 : ((n, c) :: acc).lookup x = some (if x == n then c else d) := by
            rw [List.lookup_cons]
            cases hx : x == n with
            | true => rfl
            | false => exact e
          have h2 := e3 x _ h1
          have h3 := e2 x _ h2
          have h4 := ha x d e
          rw [h3] at h4
          rw [h2]; exact h4
        · rcases List.mem_cons.mp hy with rfl | hy3
          · have h1 : ((n, c) :: acc).lookup n = some c := by rw [List.lookup_cons, beq_self_eq_true]
            show cl.lookup n = _
            rw [e3 n c h1, hc]
          · exact e4 y hy3 hy2
      · have hb : (k == NameKind.free) = false := by simpa using hk
        obtain ⟨cl, e1, e2, e3, e4⟩ := ih acc hr ha
        refine ⟨cl, ?_, e2, e3, fun y hy hy2 => ?_⟩
        · rw [List.forIn_cons]
          show ((if (k == NameKind.free) = true then (cellOf env n >>= fun c => pure (ForInStep.yield ((n, c) :: acc))) else pure (ForInStep.yield acc)) >>= _) = _
          rw [hb]
          exact e1
        · rcases List.mem_cons.mp hy with rfl | hy3
          · exact absurd hy2 hk
          · exact e4 y hy3 hy2
  obtain ⟨cl, e1, e2, _, e4⟩ := aux scope.names [] hf fun x c e => by cases e
  refine ⟨cl, Eq.trans ?_ e1, e2, e4⟩
  unfold closureFor
  first
    | rfl
    | (simp only [bind_pure]; done)
    | (simp only [bind_pure]; rfl)
    | (simp only [bind_pure]
       congr 1
       funext x r
       obtain ⟨n, k⟩ := x
       cases (k == NameKind.free) <;> rfl)

theorem relabel_of {env : Env} : ∀ {names : List (Str × NameKind)} {x : Str} {k' : NameKind},
    (names.map fun (n, k) => if (k == NameKind.free && env.scope.kind == .function && env.kindOf n == some .cell) then (n, NameKind.cell) else (n, k)).lookup x = some k' →
    names.lookup x = some k' ∨ (names.lookup x = some .free ∧ k' = .cell)
  | [], _, _, h => by simp at h
  | (n, k) :: r, x, k', h => by
    have ih := @relabel_of env r x k'
    rw [List.map_cons] at h
    show List.lookup x ((n, k) :: r) = _ ∨ (List.lookup x ((n, k) :: r) = _ ∧ _)
    rw [List.lookup_cons]
    by_cases hq : (k == NameKind.free && env.scope.kind == .function && env.kindOf n == some .cell) = true
    · have g : List.lookup x ((if (k == NameKind.free && env.scope.kind == .function && env.kindOf n == some .cell) = true then (n, NameKind.cell) else (n, k)) :: _) = _ := h
      rw [if_pos hq, List.lookup_cons] at g
      have hk : k = .free := by
        rw [Bool.and_eq_true, Bool.and_eq_true] at hq
        exact eq_of_beq hq.1.1
      cases hx : x == n with
      | true => rw [hx] at g; rw [hk]; exact .inr ⟨rfl, (Option.some.inj g).symm⟩
      | false => rw [hx] at g; exact ih g
    · have g : List.lookup x ((if (k == NameKind.free && env.scope.kind == .function && env.kindOf n == some .cell) = true then (n, NameKind.cell) else (n, k)) :: _) = _ := h
      rw [if_neg hq, List.lookup_cons] at g
      cases hx : x == n with
      | true => rw [hx] at g; exact .inl g
      | false => rw [hx] at g; exact ih g
theorem relabel_cell {env : Env} (hk : env.scope.kind = .function) {x : Str} (hx : env.kindOf x = some .cell) : ∀ {names : List (Str × NameKind)}, names.lookup x = some .free →
    (names.map fun (n, k) => if (k == NameKind.free && env.scope.kind == .function && env.kindOf n == some .cell) then (n, NameKind.cell) else (n, k)).lookup x = some .cell
  | [], h => by simp at h
  | (n, k) :: r, h => by
    have ih := @relabel_cell env hk x hx r
    show List.lookup x ((if (k == NameKind.free && env.scope.kind == .function && env.kindOf n == some .cell) = true then (n, NameKind.cell) else (n, k)) :: _) = some NameKind.cell
    rw [List.lookup_cons] at h
    cases hxn : x == n with
    | true =>
      rw [hxn] at h
      have ek : k = .free := Option.some.inj h
      have en : x = n := eq_of_beq hxn
      subst ek en
      rw [if_pos (by rw [hk, hx]; rfl), List.lookup_cons, beq_self_eq_true]
    | false =>
      rw [hxn] at h
      by_cases hq : (k == NameKind.free && env.scope.kind == .function && env.kindOf n == some .cell) = true
      · rw [if_pos hq, List.lookup_cons, hxn]; exact ih h
      · rw [if_neg hq, List.lookup_cons, hxn]; exact ih h

/-! ### tests of a clause -/
def PTs (X : Cx) (ifs : List Expr) (t : TT) : Prop :=
  ∀ (pins : List (Addr × Obj)) (s : Shared) (σ : St) (H : Hp) (Q : Bool → Hp → Prop), Inv X pins σ H s → t σ H Q →
    wpAny (model X.prog X.w) X.A (forIn ifs true fun c r => if r = true then do let ok ← isTrue c X.env (eval c X.env); pure (ForInStep.yield ok) else pure (ForInStep.yield r)) (TP X pins σ Q) X.xe s
def tNoIf : TT := fun _ H Q => Q true H
theorem tNoIf_go {σ : St} {H : Hp} {A B : Hp → Prop} (h : A H) : tNoIf σ H fun b H4 => if b = true then A H4 else B H4 := by
  show if true = true then A H else B H
  rw [if_pos rfl]
  exact h
theorem pts_nil {X : Cx} : PTs X [] tNoIf := fun _ _ _ H _ I h => wpAny_tests_nil ⟨H, I, h⟩
/-- an untracked object is taken into the tracked ones, as it stands -/
theorem HOk.take {P : Program} {w : World} {H : Hp} {h : Heap} {a : Addr} {o : HO} (x : HOk P w H h) (hn : H a = none) (new : ObjOk P w (upd H a o) h a o) : HOk P w (upd H a o) h := fun b u e => by
  by_cases hb : b = a
  · subst hb; rw [upd_same] at e; cases e; exact new
  · rw [upd_ne hb] at e
    exact (x b u e).stay (fun _ _ _ q => q) (fun c q => by rw [upd_ne (ne_of_none q hn)]; exact q) fun c xs q => by rw [upd_ne (ne_of_none q hn)]; exact q

/-- the block's names at its entry: the clause's own first, then those from around (slots js) -/
def blockSt (σ : St) (js : List Nat) : St := js.map fun j => (σ[j]?).getD none
def CompW (js : List Nat) (tt : TT) (te : TE) (σ : St) (Q : VK) (J : It) (H1 : Hp) : Prop := ∃ W : Nat → Nat → List V → Hp → Prop, (∃ m, W 0 m [] H1) ∧ ∀ i m ys H2, W i m ys H2 →
  (J.stop i H2 ∧ ∀ D, H2 D = none → Q (.ref D) (upd H2 D (.lst ys))) ∨
  (J.go i H2 ∧ ys.length < sizeLine ∧ ∃ N : List V → Hp → Prop, (∀ ys' H', N ys' H' → ∃ m', m' < m ∧ W (i + 1) m' ys' H') ∧ ∀ x H3, J.yld i H2 x H3 → tt (some x :: blockSt σ js) H3 fun b H4 =>
    if b = true then te (some x :: blockSt σ js) H4 fun y H5 => N (ys ++ [y]) H5 else N ys H4)
def tComp (wi : TI) (js : List Nat) (tt : TT) (te : TE) : TE := fun σ H Q => wi σ H fun J H1 => CompW js tt te σ Q J H1

abbrev lobj (us : List Value) (n : Nat) : Obj := { cls := .type "list", data := .seq us.toArray n }

section
variable {prog : Program} {w : World} {A : Around} {s : Shared} {R : Result → Shared → Prop}
abbrev NotedR (prog : Program) (w : World) (A : Around) (env : Env) (R : Result → Shared → Prop) : Value → Shared → Prop := notedBy (model prog w) A env fun x t => R (.error x) t
/-- a block's turns, with whatever the iterator lets go of ahead of the store -/
theorem loop_any {elt tg iter : Expr} {ifs : List Expr} {scope : Scope} {pos : Pos} {it acc : Value} {env : Env} (J : Nat → Shared → Prop)
    (step : ∀ k t, J k t → wpAny (model prog w) A (pyNext it) (fun r t1 => match r with
      | none => R (.ok .next) t1
      | some v => wpAny (model prog w) A (letOwnedTupleGo tg it v) (fun _ t2 => wpAny (model prog w) A (assign tg env v) (fun _ t3 =>
          wpAny (model prog w) A (forIn ifs true fun c b => if b = true then do let z ← isTrue c env (eval c env); pure (ForInStep.yield z) else pure (ForInStep.yield b)) (fun z t4 =>
            if z = true then wpAny (model prog w) A (eval elt env) (fun y t5 => wpAny (model prog w) A (call (.builtin "list.append") [acc, y]) (fun _ t6 => ∃ m, m < k ∧ J m t6) (NotedR prog w A env R) t5) (NotedR prog w A env R) t4
            else ∃ m, m < k ∧ J m t4) (NotedR prog w A env R) t3) (NotedR prog w A env R) t2) (NotedR prog w A env R) t1) (NotedR prog w A env R) t)
    (k : Nat) (h : J k s) : codeAny (model prog w) A (.compLoop (.ListComp elt [⟨tg, iter, ifs, 0⟩] scope pos) 0 it acc env) R s := by
  refine codeAny_loop rfl J (fun k t hJ => ?_) k h
  show wpAny _ A ((compTurn (.ListComp elt [⟨tg, iter, ifs, 0⟩] scope pos) 0 it acc env).onRaise (fun y => do noteFrame y env; theTreesLotGoes y)) _ _ t
  refine wpAny_noted ?_
  rw [compTurn_list]
  refine wpAny_bind (wpAny_standAt (wpAny_bind (wpAny_mono (step k t hJ) (fun r t1 q1 => ?_) fun _ _ f => f)))
  cases r with
  | none => exact wpAny_pure q1
  | some v =>
    refine wpAny_bind (wpAny_mono q1 (fun _ t2 q2 => ?_) fun _ _ f => f)
    refine wpAny_bind (wpAny_mono q2 (fun _ t3 q3 => ?_) fun _ _ f => f)
    refine wpAny_bind (wpAny_mono q3 (fun z t4 q4 => ?_) fun _ _ f => f)
    cases z with
    | false => exact wpAny_pure ⟨rfl, q4⟩
    | true => exact wpAny_bind (wpAny_bind (wpAny_mono q4 (fun y t5 q5 => wpAny_bind (wpAny_mono q5 (fun _ t6 q6 => wpAny_pure (wpAny_pure ⟨rfl, q6⟩)) fun _ _ f => f)) fun _ _ f => f))
end
def CompWT (n : Nat) (g : TG) (js : List Nat) (tt : TT) (te : TE) (σ : St) (Q : VK) (J : It) (H1 : Hp) : Prop := ∃ W : Nat → Nat → List V → Hp → Prop, (∃ m, W 0 m [] H1) ∧ ∀ i m ys H2, W i m ys H2 →
  (J.stop i H2 ∧ ∀ D, H2 D = none → Q (.ref D) (upd H2 D (.lst ys))) ∨
  (J.go i H2 ∧ ys.length < sizeLine ∧ ∃ N : List V → Hp → Prop, (∀ ys' H', N ys' H' → ∃ m', m' < m ∧ W (i + 1) m' ys' H') ∧ ∀ x H3, J.yld i H2 x H3 → ∀ v0 : St, v0.length = n → g x (v0 ++ blockSt σ js) H3 fun σ4 H4 =>
    (∃ v1 : St, v1.length = n ∧ σ4 = v1 ++ blockSt σ js) ∧ tt σ4 H4 fun b H5 => if b = true then te σ4 H5 fun y H6 => N (ys ++ [y]) H6 else N ys H5)
theorem comp_core {X : Cx} {pins : List (Addr × Obj)} {s : Shared} {σ : St} {H : Hp} {Q : VK} {use : Option (Value → Sem Unit)} {R : Value → Shared → Prop} {pos' : Pos} {CW : St → VK → It → Hp → Prop} {elt iter tg : Expr} {xs : List Str} {g : TG} {pos : Pos} {ifs : List Expr} {scope : Scope} {wi : TI} {te : TE} {tt : TT} {fr : List Str} {js : List Nat}
    (hc : X.calm = true) (hi : PI X tg iter wi)
    (hcell : ∀ y ∈ scope.names, y.2 ≠ .cell) (hkind : scope.kind = .function) (hnames : ∀ y ∈ scope.names, y.2 = .local → scope.names.lookup y.1 = some .local)
    (hfr : ∀ y ∈ scope.names, y.2 = .free → X.env.scope.names.lookup y.1 = some .cell) (hjs : js.map (fun j => X.N[j]?) = fr.map some) (hfv : ∀ y ∈ fr, scope.names.lookup y = some .free)
    (hg : ∀ cl C s' H' ex, PG (cxComp X scope cl C (xs ++ fr) s' H' ex) tg g)
    (hb : ∀ cl C s' H' ex, PE (cxComp X scope cl C (xs ++ fr) s' H' ex) elt te ∧ PTs (cxComp X scope cl C (xs ++ fr) s' H' ex) ifs tt)
    (hCW : ∀ σ Q J H1, CW σ Q J H1 → CompWT xs.length g js tt te σ Q J H1) (I : Inv X pins σ H s) (h : wi σ H fun J H1 => CW σ Q J H1)
    (fin : ∀ (s4 : Shared) (H5 : Hp) (D C : Addr) (mC : Str → Option Value), s4.heap.Ns C mC → Inv X pins σ H5 s4 → H5 C = none → C ≠ X.env.locals → C ∉ X.fs → (∀ p ∈ X.pn ++ pins, p.1 ≠ C) → (∀ y c, X.env.cells.lookup y = some c → c ≠ C) → X.s₀.heap.objs.size ≤ C → Q (.ref D) H5 → compPost (model X.prog X.w) X.A X.xe use R (.ref D) C (.ok .next) s4)
    (hs : ∀ z, foldedSetIterable iter X.env z = pure z := by intro _; rfl) :
    wpAny (model X.prog X.w) X.A (comprehension (.ListComp elt [⟨tg, iter, ifs, 0⟩] scope pos) scope X.env pos' (newList []) false (eval iter X.env) use) R X.xe s := by
  have hXk : X.env.scope.kind = .function := I.ok.kind
  obtain ⟨cl, hclos, c1, c2⟩ := closure_has (scope := scope) (env := X.env) fun y hy hk => I.ok.has _ (.inl (hfr y hy hk))
  refine wpAny_comprehension_free rfl hs hclos hkind hnames (thn (hi pins s σ H _ I h) fun xv s1 h1 => thn h1 fun itv s2 h2 => ?_)
  obtain ⟨it, fp, tn, J, H2, rfl, I2, T, st2, f2, hcw⟩ := h2
  obtain ⟨W, ⟨m0, w0⟩, turn⟩ := hCW _ _ _ _ hcw
  refine wpAny_newObj_type (wpAny_newFunctionEnv hcell (by intro y hy; simp at hy) (fun hA nsA sbA => ?_) hkind)
  dsimp only at nsA sbA ⊢
  generalize hG : s2.heap.push { cls := .type "list", dict := none, data := .seq ([] : List Value).toArray } = G at nsA sbA ⊢
  -- D: the list; C: the block's names
  have hC : G.objs.size = s2.heap.objs.size + 1 := by rw [← hG, Heap.size_push]
  have hDC : s2.heap.objs.size ≠ G.objs.size := by rw [hC]; exact Nat.ne_of_lt (Nat.lt_succ_self _)
  have small : ∀ b o, s2.heap.get? b = some o → b ≠ G.objs.size ∧ b ≠ s2.heap.objs.size := fun b o e => ⟨by rw [hC]; exact Nat.ne_of_lt (Nat.lt_succ_of_lt (Heap.lt_size e)), Nat.ne_of_lt (Heap.lt_size e)⟩
  have old : ∀ b o, s2.heap.get? b = some o → hA.get? b = some o := fun b o e => sbA.extBut b o (small b o e).1 (Heap.get?_push_of_some _ (hG ▸ Heap.get?_push_of_some _ e))
  have hDA : hA.get? s2.heap.objs.size = some (lobj [] 0) := sbA.extBut _ _ hDC (Heap.get?_push_of_some _ (hG ▸ Heap.get?_push_size _ rfl))
  have fpo : ∀ b ∈ fp, ∃ o, s2.heap.get? b = some o := fun b hb => let ⟨o, e, _⟩ := T.obj _ _ st2 b hb; ⟨o, e⟩
  have celo : ∀ y c, cl.lookup y = some c → ∃ o, s2.heap.get? c = some o := fun y c e => let ⟨_, o, ho, _⟩ := I2.cell y c (c1 y c e); ⟨o, ho⟩
  have ok' : (cxComp X scope cl G.objs.size (xs ++ fr) s2 H2 fp).Ok := by
    refine ⟨I2.ok.mod, hkind, I2.ok.glob, I2.ok.blt, ?_, fun a b c e1 e2 => I2.ok.inj a b c (c1 a c e1) (c1 b c e2), fun y hy => ?_, fun _ _ z => absurd z (by intro q; cases q), I2.ok.hd, I2.ok.frames, .inl rfl, fun b hb => ?_, I2.bs, Nat.le_trans I2.ok.bsz I2.sz, fun b o e hb => ?_, fun b hb hz => ?_, I2.stack, I2.stkFree⟩
    · show s2.heap.objs.size ≤ G.objs.size
      rw [hC]; exact Nat.le_succ _
    · have hy : (relabel scope X.env).names.lookup y = some .cell ∨ (relabel scope X.env).names.lookup y = some .free := hy
      have key : scope.names.lookup y = some .free := by
        rcases hy with hy | hy
        · rcases relabel_of hy with q | ⟨q, _⟩
          · exact absurd rfl (hcell _ (PySem.mem_of_lookup q))
          · exact q
        · rcases relabel_of hy with q | ⟨q, _⟩
          · exact q
          · exact q
      have hm := PySem.mem_of_lookup key
      obtain ⟨c, e⟩ := I.ok.has y (.inl (hfr _ hm rfl))
      exact ⟨c, (c2 _ hm rfl).trans e⟩
    · obtain ⟨o, e⟩ := fpo b hb
      exact ⟨(small b o e).1, fun y c q => (f2 b hb).2.2.2.2.1 y c (c1 y c q)⟩
    · obtain ⟨_, _, _, f3, _⟩ := f2 b hb
      rcases f3 with f3 | f3
      · exact I2.ok.noex b o e f3
      · exact absurd (Nat.lt_of_lt_of_le (Heap.lt_size e) (Nat.le_trans I2.ok.bsz f3)) (Nat.lt_irrefl _)
    · obtain ⟨_, n1, n2, _⟩ := f2 b hb
      exact (List.mem_cons.mp (I2.stkSub b hz)).elim n1 n2
  have nofs : s2.heap.objs.size ∉ frs X.stack := fun hz => by
    obtain ⟨_, o, ho, _⟩ := I2.stack.mem hz
    exact Nat.lt_irrefl _ (Heap.lt_size ho)
  have lenB : (blockSt σ js).length = fr.length := by
    have e := congrArg List.length hjs
    rw [List.length_map, List.length_map] at e
    unfold blockSt
    rw [List.length_map]; exact e
  have start' : ∀ t, Inv (cxComp X scope cl G.objs.size (xs ++ fr) s2 H2 fp) [(s2.heap.objs.size, lobj [] 0)] ((xs.map fun _ => none) ++ blockSt σ js) H2 { s2 with heap := hA, toks := t } := fun t => by
    refine ⟨ok', rfl, I2.bare, Un.kept old, ⟨_, nsA, fun i y v e1 e2 e3 => ?_⟩, fun y c e => ?_, I2.hok.fresh (by rw [hC]; exact Nat.le_succ _), fun y c e => I2.freeC y c (c1 y c e), fun p hp => ?_, I2.hok.kept old, ?_⟩
    · by_cases hix : i < xs.length
      · rw [List.getElem?_append_left (by rw [List.length_map]; exact hix), List.getElem?_map, List.getElem?_eq_getElem hix] at e2
        cases e2
      · obtain ⟨i, rfl⟩ : ∃ j, i = xs.length + j := ⟨i - xs.length, by omega⟩
        have e1 : (xs ++ fr)[xs.length + i]? = some y := e1
        have e1 : fr[i]? = some y := by rw [List.getElem?_append_right (by omega), show xs.length + i - xs.length = i by omega] at e1; exact e1
        have e2 : (blockSt σ js)[i]? = some (some v) := by rw [List.getElem?_append_right (by rw [List.length_map]; omega), List.length_map, show xs.length + i - xs.length = i by omega] at e2; exact e2
        unfold blockSt at e2
        rw [List.getElem?_map] at e2
        obtain ⟨j, ej, e2⟩ := Option.map_eq_some_iff.mp e2
        have hN : X.N[j]? = some y := by
          have q := congrArg (fun l => l[i]?) hjs
          simp only [List.getElem?_map, ej, e1, Option.map_some] at q
          exact Option.some.inj q
        have hσ : σ[j]? = some (some v) := by
          cases z : σ[j]? with
          | none => rw [z] at e2; cases e2
          | some w => rw [z] at e2; exact congrArg some e2
        have hfree := hfv y (List.mem_of_getElem? e1)
        have hm := PySem.mem_of_lookup hfree
        have hce : X.env.scope.names.lookup y = some .cell := hfr _ hm rfl
        obtain ⟨m, _, hl⟩ := I2.loc
        obtain ⟨u, ru, look⟩ := hl j y v hN hσ (.inr (.inl hce))
        refine ⟨u, ru, .inr ⟨.inl (relabel_cell hXk hce hfree), ?_⟩⟩
        rcases look with ⟨k, _⟩ | ⟨_, c, ec, ho⟩
        · have k : X.env.scope.names.lookup y = some .local := k
          rw [hce] at k; cases k
        · obtain ⟨o, ho, hd⟩ := ho
          exact ⟨c, (c2 _ hm rfl).trans ec, o, old c o ho, hd⟩
    · obtain ⟨v, o, ho, hd⟩ := I2.cell y c (c1 y c e)
      exact ⟨v, o, old c o ho, hd⟩
    · have hp : p ∈ [(s2.heap.objs.size, lobj [] 0)] := hp
      have e := List.mem_singleton.mp hp
      subst e
      exact ⟨hDA, I2.hok.fresh (Nat.le_refl _), hDC, nofs, fun v z => by cases z⟩
    · show ((xs.map fun _ => none) ++ blockSt σ js).length = (xs ++ fr).length
      rw [List.length_append, List.length_append, List.length_map, lenB]
  have fok : ∀ {us : List Value} {n : Nat} {H' : Hp}, (∀ b ∈ fp, H' b = none) → ∀ b ∈ fp, FpOk (cxComp X scope cl G.objs.size (xs ++ fr) s2 H2 fp) [(s2.heap.objs.size, lobj us n)] H' b := fun {us n H'} hn b hb => by
    obtain ⟨o, e⟩ := fpo b hb
    refine ⟨hn b hb, (small b o e).1, fun hz => (List.mem_cons.mp (I2.stkSub b hz)).elim (f2 b hb).2.1 (f2 b hb).2.2.1, .inl hb, fun y c q => (f2 b hb).2.2.2.2.1 y c (c1 y c q), fun p hp => ?_⟩
    have hp : p ∈ [(s2.heap.objs.size, lobj us n)] := hp
    have ep := List.mem_singleton.mp hp
    subst ep
    exact fun z => (small b o e).2 z.symm
  have loop : ∀ sB : Shared, (∃ t, sB = { s2 with heap := hA, toks := t }) →
      codeAny (model X.prog X.w) X.A (.compLoop (.ListComp elt [⟨tg, iter, ifs, 0⟩] scope pos) 0 (.ref it) (.ref s2.heap.objs.size) (compEnvC scope cl G.objs.size X.env))
        (compPost (model X.prog X.w) X.A X.xe use R (.ref s2.heap.objs.size) G.objs.size) sB := by
    rintro sB ⟨t, rfl⟩
    refine loop_any (fun k s' => ∃ i ys us n v0 H', v0.length = xs.length ∧ Inv (cxComp X scope cl G.objs.size (xs ++ fr) s2 H2 fp) [(s2.heap.objs.size, lobj us n)] (v0 ++ blockSt σ js) H' s' ∧ Vals ys us ∧ ys.length ≤ sizeLine ∧ tn i s'.heap ∧ (∀ b ∈ fp, H' b = none) ∧ W i k ys H') ?_ m0
      ⟨0, [], [], 0, xs.map fun _ => none, H2, List.length_map .., start' t, .nil, Nat.zero_le _, T.keep _ _ _ st2 fun b hb o e => old b o e, fun b hb => (f2 b hb).1, w0⟩
    rintro k s3 ⟨i, ys, us, n, v0, H3, hv0, I3, rv, hlen, st3, fr3, w3⟩
    rcases turn i k ys H3 w3 with ⟨stop, qn⟩ | ⟨go, hlt, N', hN', step⟩
    · refine thn (T.done (cxComp X scope cl G.objs.size (xs ++ fr) s2 H2 fp) rfl rfl rfl hc i _ s3 _ H3 _ I3 (fok fr3) st3 stop) fun r s4 ⟨hr, I4⟩ => ?_
      subst hr
      obtain ⟨mC, hnC, _⟩ := id I4.loc
      obtain ⟨pD, nD, _, _, _⟩ := I4.pin (s2.heap.objs.size, lobj us n) (by show _ ∈ [] ++ [_]; simp)
      have pD : s4.heap.get? s2.heap.objs.size = some (lobj us n) := pD
      have nD : H3 s2.heap.objs.size = none := nD
      have nC : H3 G.objs.size = none := I4.free
      have D2 : ∀ b o, s2.heap.get? b = some o → b ≠ s2.heap.objs.size := fun b o e => (small b o e).2
      have base4 : Un (frs X.stack) fp H2 H3 s2.heap s4.heap := I4.base
      have u4 : Un (frs X.stack) fp H2 (upd H3 s2.heap.objs.size (.lst ys)) s2.heap s4.heap :=
        { keep := base4.keep
          slot := base4.slot
          free := fun b o e nb hx' => by rw [upd_ne (D2 b o e)]; exact base4.free b o e nb hx'
          there := base4.there
          tups := fun b xs e => by have q := base4.tups b xs e; rw [upd_ne (ne_of_none q nD)]; exact q
          frzs := fun b o u e => by have q := base4.frzs b o u e; rw [upd_ne (ne_of_none q nD)]; exact q
          tbls := fun b ps e => by obtain ⟨more, q⟩ := base4.tbls b ps e; exact ⟨more, by rw [upd_ne (ne_of_none q nD)]; exact q⟩ }
      have I5 : Inv X pins σ (upd H3 s2.heap.objs.size (.lst ys)) s4 := I2.call' (s' := s4) (ch := fp) I4.os u4 (I4.hok.take nD ⟨hlen, us, n, rv, pD⟩) I4.bare fun b hb => by
        obtain ⟨_, g1, _, g3, g4, g5⟩ := f2 b hb
        exact ⟨g3, g1, g4, g5⟩
      have locC : G.objs.size ≠ X.env.locals := fun z => by
        obtain ⟨_, ⟨o, _, _, ho, _⟩, _⟩ := id I2.loc
        exact (small _ o ho).1 z.symm
      have fsC : G.objs.size ∉ X.fs := fun hz => by
        obtain ⟨_, o, ho, _⟩ := I2.ok.funs.mem hz
        have := Nat.lt_of_lt_of_le (Heap.lt_size ho) I2.sz
        rw [hC] at this
        exact Nat.lt_irrefl _ (Nat.lt_of_succ_lt this)
      have pinX : ∀ p ∈ X.pn ++ pins, p.1 ≠ G.objs.size := fun p hp => (small _ _ (I2.pin p hp).1).1
      have nCu : (upd H3 s2.heap.objs.size (.lst ys)) G.objs.size = none := by rw [upd_ne (Ne.symm hDC)]; exact nC
      refine fin s4 _ _ _ mC hnC I5 nCu locC fsC pinX (fun y c q z => ?_) (Nat.le_trans I2.sz (by rw [hC]; exact Nat.le_succ _)) (qn _ nD)
      obtain ⟨v, o, ho, _⟩ := I2.cell y c q
      exact (small c o ho).1 z
    · refine thn (T.item (cxComp X scope cl G.objs.size (xs ++ fr) s2 H2 fp) rfl rfl rfl hc i _ s3 _ H3 _ I3 (fok fr3) st3 go) fun r s4 ⟨u, hr, h4⟩ => ?_
      subst hr
      refine thn h4 fun _ s5 ⟨v, H5, I5, r5, y5, st5, fr5⟩ => ?_
      have I5' := I5.pinned (fok fr5) (T.obj _ _ st5)
      refine wpAny_mono (hg cl G.objs.size s2 H2 fp _ s5 _ H5 v u _ I5' r5 (step v H5 y5 v0 hv0)) (fun _ s6 ⟨σ6, H6, I6, ⟨w1, hw1, e6⟩, q6⟩ => ?_) fun _ _ f => f.elim
      subst e6
      refine wpAny_mono ((hb cl G.objs.size s2 H2 fp).2 _ s6 _ H6 _ I6 q6) (fun b s7 ⟨H7, I7, q7⟩ => ?_) fun _ _ f => f.elim
      have back : ∀ {s8 : Shared} {H8 : Hp}, Inv (cxComp X scope cl G.objs.size (xs ++ fr) s2 H2 fp) ([(s2.heap.objs.size, lobj us n)] ++ pinsAt fp s5.heap) (w1 ++ blockSt σ js) H8 s8 → tn (i + 1) s8.heap ∧ ∀ b ∈ fp, H8 b = none := fun {s8 H8} I8 => by
        refine ⟨T.keep _ _ _ st5 fun b hb o e => (I8.pin (b, o) (List.mem_append_right _ (List.mem_append_right _ (mem_pinsAt hb e)))).1, fun b hb => ?_⟩
        obtain ⟨o, e, _⟩ := T.obj _ _ st5 b hb
        exact (I8.pin (b, o) (List.mem_append_right _ (List.mem_append_right _ (mem_pinsAt hb e)))).2.1
      cases b with
      | false =>
        obtain ⟨m', hm, w7⟩ := hN' _ _ q7
        obtain ⟨t7, n7⟩ := back I7
        exact ⟨m', hm, i + 1, ys, us, n, w1, H7, hw1, I7.unpinned, rv, hlen, t7, n7, w7⟩
      | true =>
        refine wpAny_mono ((hb cl G.objs.size s2 H2 fp).1 _ s7 _ H7 _ I7 q7) (fun y' s8 ⟨y, H8, I8, r8, q8⟩ => ?_) fun _ _ f => f.elim
        obtain ⟨m', hm, w8⟩ := hN' _ _ q8
        obtain ⟨t8, n8⟩ := back I8
        have I8' := I8.unpinned
        obtain ⟨pD, nD, _, _, _⟩ := I8'.pin (s2.heap.objs.size, lobj us n) (by show _ ∈ [] ++ [_]; simp)
        have pD : s8.heap.get? s2.heap.objs.size = some (lobj us n) := pD
        have nD : H8 s2.heap.objs.size = none := nD
        refine append_at pD (fun h9 hs9 e9 => ?_) (by rw [List.size_toArray, ← rv.length]; exact hlen)
        have e9 : h9.get? s2.heap.objs.size = some (lobj (us ++ [y']) (n + 1)) := by rw [e9]; simp [lobj]
        have J0 : Inv (cxComp X scope cl G.objs.size (xs ++ fr) s2 H2 fp) [] (w1 ++ blockSt σ js) H8 s8 := I8'.pins_of fun p hp => absurd hp (by simp)
        have J9 : Inv (cxComp X scope cl G.objs.size (xs ++ fr) s2 H2 fp) [] (w1 ++ blockSt σ js) H8 { s8 with heap := h9, toks := s8.toks } :=
          J0.turned (it := s2.heap.objs.size) (fun b o hb' e => hs9.extBut b o hb' e) nD hDC (.inr (Nat.le_refl _)) (fun y0 c q z => by
            obtain ⟨o, e⟩ := celo y0 c q
            exact (small c o e).2 z) fun p hp => absurd (show p ∈ ([] : List (Addr × Obj)) from hp) (by simp)
        refine ⟨m', hm, i + 1, ys ++ [y], us ++ [y'], n + 1, w1, H8, hw1, J9.pins_of fun p hp => ?_, rv.append (.cons r8 .nil), (by rw [List.length_append, List.length_singleton]; exact hlt), T.keep _ _ _ t8 fun b hb' o e => hs9.extBut b o (by
          obtain ⟨o', e'⟩ := fpo b hb'
          exact (small b o' e').2) e, n8, w8⟩
        have ep := List.mem_singleton.mp hp
        subst ep
        exact ⟨e9, nD, hDC, nofs, fun v z => by cases z⟩
  exact codeAny_compStart_list (loop _ ⟨_, rfl⟩) (T.self _ 0 _ _ _ (T.keep _ _ _ st2 fun b hb o e => old b o e) (loop _ ⟨_, rfl⟩))

theorem pe_compC {X : Cx} {CW : St → VK → It → Hp → Prop} {elt iter tg : Expr} {xs : List Str} {g : TG} {pos : Pos} {ifs : List Expr} {scope : Scope} {wi : TI} {te : TE} {tt : TT} {fr : List Str} {js : List Nat}
    (hc : X.calm = true) (hi : PI X tg iter wi)
    (hcell : ∀ y ∈ scope.names, y.2 ≠ .cell) (hkind : scope.kind = .function) (hnames : ∀ y ∈ scope.names, y.2 = .local → scope.names.lookup y.1 = some .local)
    (hfr : ∀ y ∈ scope.names, y.2 = .free → X.env.scope.names.lookup y.1 = some .cell) (hjs : js.map (fun j => X.N[j]?) = fr.map some) (hfv : ∀ y ∈ fr, scope.names.lookup y = some .free)
    (hg : ∀ cl C s' H' ex, PG (cxComp X scope cl C (xs ++ fr) s' H' ex) tg g)
    (hb : ∀ cl C s' H' ex, PE (cxComp X scope cl C (xs ++ fr) s' H' ex) elt te ∧ PTs (cxComp X scope cl C (xs ++ fr) s' H' ex) ifs tt)
    (hCW : ∀ σ Q J H1, CW σ Q J H1 → CompWT xs.length g js tt te σ Q J H1) (hs : ∀ z, foldedSetIterable iter X.env z = pure z := by intro _; rfl) :
    PE X (.ListComp elt [⟨tg, iter, ifs, 0⟩] scope pos) (fun σ H Q => wi σ H fun J H1 => CW σ Q J H1) := by
  intro pins s σ H Q I h
  rw [eval_ListComp]
  exact comp_core (use := none) (R := EP X pins σ Q) hc hi hcell hkind hnames hfr hjs hfv hg hb hCW I h (fun s4 H5 D C mC n I5 nC lC fC pC cC sC q => ⟨mC, n, fun h' hsb => ⟨.ref D, H5, I5.turned (t' := s4.toks) (it := C) (fun b o hb' e => hsb.extBut b o hb' e) nC lC (.inr sC) cC pC, rfl, q⟩⟩) hs
theorem compW_T {js : List Nat} {tt : TT} {te : TE} {σ : St} {Q : VK} {J : It} {H1 : Hp} (h : CompW js tt te σ Q J H1) : CompWT 1 (gName 0) js tt te σ Q J H1 := by
  obtain ⟨W, w0, turn⟩ := h
  refine ⟨W, w0, fun i m ys H2 hw => ?_⟩
  rcases turn i m ys H2 hw with h | ⟨h1, h2, N, h3, h4⟩
  · exact .inl h
  · refine .inr ⟨h1, h2, N, h3, fun x H3 hy v0 hv => ?_⟩
    obtain ⟨w, rfl⟩ : ∃ w, v0 = [w] := by
      obtain _ | ⟨w, v0⟩ := v0
      · cases hv
      · obtain _ | ⟨z, v0⟩ := v0
        · exact ⟨w, rfl⟩
        · cases hv
    exact ⟨⟨[some x], rfl, rfl⟩, h4 x H3 hy⟩
theorem pe_comp {X : Cx} {elt iter : Expr} {x : Str} {px pos : Pos} {ifs : List Expr} {scope : Scope} {wi : TI} {te : TE} {tt : TT} {fr : List Str} {js : List Nat}
    (hc : X.calm = true) (hi : PI X (.Name x px) iter wi)
    (hcell : ∀ y ∈ scope.names, y.2 ≠ .cell) (hkind : scope.kind = .function) (hnames : ∀ y ∈ scope.names, y.2 = .local → scope.names.lookup y.1 = some .local) (hx : scope.names.lookup x = some .local)
    (hfr : ∀ y ∈ scope.names, y.2 = .free → X.env.scope.names.lookup y.1 = some .cell) (hnd : (x :: fr).Nodup) (hjs : js.map (fun j => X.N[j]?) = fr.map some) (hfv : ∀ y ∈ fr, scope.names.lookup y = some .free)
    (hb : ∀ cl C s' H' ex, PE (cxComp X scope cl C (x :: fr) s' H' ex) elt te ∧ PTs (cxComp X scope cl C (x :: fr) s' H' ex) ifs tt)
    (hs : ∀ z, foldedSetIterable iter X.env z = pure z := by intro _; rfl) :
    PE X (.ListComp elt [⟨.Name x px, iter, ifs, 0⟩] scope pos) (tComp wi js tt te) :=
  pe_compC (xs := [x]) (g := gName 0) hc hi hcell hkind hnames hfr hjs hfv (fun _ _ _ _ _ => pg_name hnd rfl (.inl (lookup_relabel_local hx)) (.inr (lookup_relabel_local hx))) hb (fun _ _ _ _ h => compW_T h) hs
/-- over a tuple that the block leaves as it is -/
theorem comp_tup {K : PySem.W.Frag} {a : Addr} {xs : List V} {js : List Nat} {tt : TT} {te : TE} {σ : St} {H : Hp} {Q : VK} (Pv : Nat → List V → Hp → Prop) (h0 : Pv 0 [] H) (hl : ∀ i ys H, i ≤ xs.length → Pv i ys H → SqT K H a xs ∧ ys.length ≤ i) (hz : xs.length ≤ sizeLine)
    (hs : ∀ i x ys H, xs[i]? = some x → Pv i ys H → tt (some x :: blockSt σ js) H fun b H4 => if b = true then te (some x :: blockSt σ js) H4 fun y H5 => Pv (i + 1) (ys ++ [y]) H5 else Pv (i + 1) ys H4)
    (hd : ∀ ys H, Pv xs.length ys H → ∀ D, H D = none → Q (.ref D) (upd H D (.lst ys))) : CompW js tt te σ Q (Itt K a) H := by
  refine ⟨fun i m ys H => i ≤ xs.length ∧ m = xs.length - i ∧ Pv i ys H, ⟨_, Nat.zero_le _, rfl, h0⟩, fun i m ys H2 ⟨hi, hm, hp⟩ => ?_⟩
  obtain ⟨hq, hy⟩ := hl i ys H2 hi hp
  by_cases e : i = xs.length
  · subst e
    exact .inl ⟨⟨xs, hq, Nat.le_refl _⟩, hd ys H2 hp⟩
  · have hlt : i < xs.length := Nat.lt_of_le_of_ne hi e
    refine .inr ⟨⟨xs, _, hq, List.getElem?_eq_getElem hlt⟩, by omega, Pv (i + 1), fun ys' H' hp' => ⟨xs.length - (i + 1), by omega, by omega, rfl, hp'⟩, fun x H3 hy3 => ?_⟩
    obtain ⟨e3, hx⟩ := hy3
    subst e3
    exact hs i x ys H3 (hx xs hq) hp
end L2

/-! zip(t, l) of a tuple and a list, walked by a loop with two targets. -/
namespace L2
open PySem PySem.Spec PyProof.Rows
section
variable {prog : Program} {w : World} {A : Around} {E : Value → Shared → Prop} {s : Shared}

/-- the records of a zip, apart from one another and from what it walks -/
structure ZAp (z TI TO i1 i2 a b : Addr) : Prop where
  p1 : TI ≠ z
  p2 : TO ≠ z
  p3 : i1 ≠ z
  p4 : i2 ≠ z
  p5 : TI ≠ TO
  p6 : TI ≠ i1
  p7 : TI ≠ i2
  p8 : TO ≠ i1
  p9 : TO ≠ i2
  p10 : i1 ≠ i2
  a1 : a ≠ z
  a2 : a ≠ TO
  a3 : a ≠ i1
  a4 : a ≠ i2
  b1 : b ≠ z
  b2 : b ≠ TO
  b3 : b ≠ i1
  b4 : b ≠ i2

end
/-! t * k of a tuple -/
section
open AutoSeq1 (wpAny_loadPart')
end
end L2

/-! zip and t * k, by the layer. -/
namespace L2
open PySem PySem.Spec PyProof.Rows
section
variable {X : Cx}
/-! ### zip(t, l) -/
structure Z5 (z TI TO i1 i2 : Addr) : Prop where
  p1 : TI ≠ z
  p2 : TO ≠ z
  p3 : i1 ≠ z
  p4 : i2 ≠ z
  p5 : TI ≠ TO
  p6 : TI ≠ i1
  p7 : TI ≠ i2
  p8 : TO ≠ i1
  p9 : TO ≠ i2
  p10 : i1 ≠ i2
end
end L2

/-! loops over zip, by a word; {} -/
namespace L2
open PySem PySem.Spec PyProof.Rows
theorem Same.put {H H1 : Hp} (e : Same H H1) {p : Addr} {o : HO} (h : H1 p = none) : Same H (upd H1 p o) := fun b u q => by rw [upd_ne (ne_of_none (e b u q) h)]; exact e b u q
section
variable {X : Cx} {pins : List (Addr × Obj)} {σ : St} {H : Hp} {s : Shared} {pos : Pos}
end
end L2

/-! made things, the heap behind them a letter -/
namespace L2
open PySem PySem.Spec PyProof.Rows
section
variable {X : Cx}
theorem PE.imp {e : Expr} {t t' : TE} (h : PE X e t) (i : ∀ σ H Q, t' σ H Q → t σ H Q) : PE X e t' := fun pins s σ H Q I q => h pins s σ H Q I (i σ H Q q)
theorem OpR.imp {f : Value → Value → Sem Value} {r r' : R2} (h : OpR X f r) (i : ∀ x y H Q, r' x y H Q → r x y H Q) : OpR X f r' := fun pins s σ H x y v u Q I rx ry q => h pins s σ H x y v u Q I rx ry (i x y H Q q)
theorem CallR.imp {f : Value} {r r' : List V → Hp → VK → Prop} (h : CallR X f r) (i : ∀ xs H Q, r' xs H Q → r xs H Q) : CallR X f r' := fun pins s σ H xs us Q I rv q => h pins s σ H xs us Q I rv (i xs H Q q)
theorem SlR.imp {r r' : V → Option Int → Option Int → Hp → VK → Prop} (h : SlR X r) (i : ∀ x lo hi H Q, r' x lo hi H Q → r x lo hi H Q) : SlR X r' := fun pins s σ H x v vl vu lo hi sl Q I rx hs pl pu q => h pins s σ H x v vl vu lo hi sl Q I rx hs pl pu (i x lo hi H Q q)
def tACut (t : TA) : TA := fun σ H R => ∃ R' : List V → Hp → Prop, (∀ xs H, R' xs H → R xs H) ∧ t σ H R'
theorem PA.cut {es : List Expr} {t : TA} (h : PA X es t) : PA X es (tACut t) := fun pos pins s σ H Q I ⟨R', i, q⟩ =>
  thn (h pos pins s σ H R' I q) fun us s' ⟨vs, H', I', rv, q'⟩ => ⟨vs, H', I', rv, i _ _ q'⟩
/-- an object is new at p, all else stands -/
def New (H : Hp) (o : HO) (Q : VK) : Prop := ∀ p H', Same H H' → H' p = some o → Q (.ref p) H'
theorem New.of {H : Hp} {o : HO} {Q : VK} (h : New H o Q) : ∀ p, H p = none → Q (.ref p) (upd H p o) := fun p hp => h p _ (Same.put (Same.refl H) hp) upd_same
def tTupA (t : TA) : TE := fun σ H Q => t σ H fun xs H1 => xs.length ≤ sizeLine ∧ New H1 (.tup xs) Q
def tLstA (t : TA) : TE := fun σ H Q => t σ H fun xs H1 => xs.length ≤ sizeLine ∧ New H1 (.lst xs) Q
theorem pe_tupA {es : List Expr} {t : TA} {x1} {pos : Pos} (h : PA X es t) : PE X (.Tuple es x1 pos) (tTupA t) := (pe_tup h.cut).imp fun _ _ _ q => ⟨_, fun _ _ z => ⟨z.1, z.2.of⟩, q⟩
theorem pe_lstA {es : List Expr} {t : TA} {pos : Pos} (h : PA X es t) : PE X (.List es pos) (tLstA t) := (pe_lst h.cut).imp fun _ _ _ q => ⟨_, fun _ _ z => ⟨z.1, z.2.of⟩, q⟩
theorem call_listA : CallR X (.type "list") (fun xs H Q => ∃ p ys, xs = [.ref p] ∧ (SqL X.K H p ys ∨ SqT X.K H p ys) ∧ New H (.lst ys) Q) :=
  call_list_of.imp fun _ _ _ ⟨p, ys, e, h, q⟩ => ⟨p, ys, e, h, q.of⟩
end
end L2

/-! DATA: None, truths, ints, texts, and tuples of these (lists and dicts by their sort alone); what a value is in a heap; == of data, however deep. -/
namespace L2
open PySem PySem.Spec PyProof.Rows

inductive Dt where
  | non | bl (b : Bool) | int (i : Int) | str (x : Str) | tup (ds : List Dt) | oth (T : String)
mutual
inductive IsD (H : Hp) : V → Dt → Prop where
  | non : IsD H .non .non
  | bl (b : Bool) : IsD H (.bl b) (.bl b)
  | int (i : Int) : IsD H (.int i) (.int i)
  | str (x : Str) : IsD H (.str x) (.str x)
  | tup {a : Addr} {xs : List V} {ds : List Dt} (h : H a = some (.tup xs)) (r : IsDs H xs ds) : IsD H (.ref a) (.tup ds)
  | lst {a : Addr} {xs : List V} (h : H a = some (.lst xs)) : IsD H (.ref a) (.oth "list")
  | dct {a : Addr} {kvs : List (Key × V)} (h : H a = some (.dK kvs)) : IsD H (.ref a) (.oth "dict")
inductive IsDs (H : Hp) : List V → List Dt → Prop where
  | nil : IsDs H [] []
  | cons {x : V} {d : Dt} {xs : List V} {ds : List Dt} (h : IsD H x d) (r : IsDs H xs ds) : IsDs H (x :: xs) (d :: ds)
end
mutual
theorem IsD.same {H H' : Hp} (e : Same H H') : ∀ {v : V} {d : Dt}, IsD H v d → IsD H' v d
  | _, _, .non => .non
  | _, _, .bl b => .bl b
  | _, _, .int i => .int i
  | _, _, .str x => .str x
  | _, _, .tup h r => .tup (e _ _ h) (IsDs.same e r)
  | _, _, .lst h => .lst (e _ _ h)
  | _, _, .dct h => .dct (e _ _ h)
theorem IsDs.same {H H' : Hp} (e : Same H H') : ∀ {vs : List V} {ds : List Dt}, IsDs H vs ds → IsDs H' vs ds
  | _, _, .nil => .nil
  | _, _, .cons h r => .cons (IsD.same e h) (IsDs.same e r)
end
mutual
theorem IsD.inj {H : Hp} : ∀ {v : V} {d e : Dt}, IsD H v d → IsD H v e → d = e
  | _, _, _, .non, .non => rfl
  | _, _, _, .bl _, .bl _ => rfl
  | _, _, _, .int _, .int _ => rfl
  | _, _, _, .str _, .str _ => rfl
  | _, _, _, .tup h r, q => by
    cases q with
    | tup h' r' => rw [h] at h'; cases h'; rw [IsDs.inj r r']
    | lst h' => rw [h] at h'; cases h'
    | dct h' => rw [h] at h'; cases h'
  | _, _, _, .lst h, q => by
    cases q with
    | tup h' r' => rw [h] at h'; cases h'
    | lst h' => rfl
    | dct h' => rw [h] at h'; cases h'
  | _, _, _, .dct h, q => by
    cases q with
    | tup h' r' => rw [h] at h'; cases h'
    | lst h' => rw [h] at h'; cases h'
    | dct h' => rfl
theorem IsDs.inj {H : Hp} : ∀ {vs : List V} {ds es : List Dt}, IsDs H vs ds → IsDs H vs es → ds = es
  | _, _, _, .nil, .nil => rfl
  | _, _, _, .cons h r, .cons h' r' => by rw [IsD.inj h h', IsDs.inj r r']
end
section
variable {H : Hp}
theorem IsDs.length : ∀ {xs : List V} {ds : List Dt}, IsDs H xs ds → xs.length = ds.length
  | _, _, .nil => rfl
  | _, _, .cons _ r => by rw [List.length_cons, List.length_cons, IsDs.length r]
theorem IsDs.get : ∀ {xs : List V} {ds : List Dt} {i : Nat} {x : V}, IsDs H xs ds → xs[i]? = some x → ∃ d, ds[i]? = some d ∧ IsD H x d
  | _, _, _, _, .nil, e => by simp at e
  | _, _, 0, _, .cons h _, e => by simp at e; subst e; exact ⟨_, rfl, h⟩
  | _, _, i + 1, x, .cons _ r, e => by
    obtain ⟨d, h1, h2⟩ := IsDs.get (i := i) (x := x) r (by simpa using e)
    exact ⟨d, by simpa using h1, h2⟩
theorem IsDs.at : ∀ {xs : List V} {ds : List Dt} {i : Nat} {d : Dt}, IsDs H xs ds → ds[i]? = some d → ∃ x, xs[i]? = some x ∧ IsD H x d
  | _, _, _, _, .nil, e => by simp at e
  | _, _, 0, _, .cons h _, e => by simp at e; subst e; exact ⟨_, rfl, h⟩
  | _, _, i + 1, d, .cons _ r, e => by
    obtain ⟨x, h1, h2⟩ := IsDs.at (i := i) (d := d) r (by simpa using e)
    exact ⟨x, by simpa using h1, h2⟩
theorem IsDs.append : ∀ {xs ys : List V} {ds es : List Dt}, IsDs H xs ds → IsDs H ys es → IsDs H (xs ++ ys) (ds ++ es)
  | _, _, _, _, .nil, s => s
  | _, _, _, _, .cons h r, s => .cons h (IsDs.append r s)
theorem IsDs.take : ∀ {xs : List V} {ds : List Dt} (n : Nat), IsDs H xs ds → IsDs H (xs.take n) (ds.take n)
  | _, _, 0, _ => .nil
  | _, _, _ + 1, .nil => .nil
  | _, _, n + 1, .cons h r => .cons h (IsDs.take n r)
theorem IsDs.drop : ∀ {xs : List V} {ds : List Dt} (n : Nat), IsDs H xs ds → IsDs H (xs.drop n) (ds.drop n)
  | _, _, 0, r => r
  | _, _, _ + 1, .nil => .nil
  | _, _, n + 1, .cons _ r => IsDs.drop n r
theorem IsDs.one {x : V} {d : Dt} (h : IsD H x d) : IsDs H [x] [d] := .cons h .nil
theorem IsDs.ints : ∀ (ns : List Int), IsDs H (ns.map V.int) (ns.map Dt.int)
  | [] => .nil
  | n :: r => .cons (.int n) (IsDs.ints r)
theorem IsDs.strs : ∀ (ns : List Str), IsDs H (ns.map V.str) (ns.map Dt.str)
  | [] => .nil
  | n :: r => .cons (.str n) (IsDs.strs r)
theorem IsDs.ints_of : ∀ {xs : List V} {ns : List Int}, IsDs H xs (ns.map Dt.int) → xs = ns.map V.int
  | _, [], .nil => rfl
  | _, n :: r, .cons h q => by cases h; rw [IsDs.ints_of q]; rfl
theorem IsD.tup_of {v : V} {ds : List Dt} (h : IsD H v (.tup ds)) : ∃ a xs, v = .ref a ∧ H a = some (.tup xs) ∧ IsDs H xs ds := by
  cases h with
  | tup h r => exact ⟨_, _, rfl, h, r⟩
end
/-- its sort -/
def Dt.ty : Dt → String
  | .non => "NoneType" | .bl _ => "bool" | .int _ => "int" | .str _ => "str" | .tup _ => "tuple" | .oth T => T
theorem IsD.tyn {H : Hp} {v : V} {d : Dt} (h : IsD H v d) : tyn H v = some d.ty := by
  cases h with
  | tup h r => simp only [L2.tyn]; rw [h]; rfl
  | lst h => simp only [L2.tyn]; rw [h]; rfl
  | dct h => simp only [L2.tyn]; rw [h]; rfl
  | _ => rfl

/-! ### == of data -/
mutual
def eqD : Dt → Dt → Bool
  | .non, .non => true
  | .bl a, .bl b => a == b
  | .bl a, .int b => (if a then 1 else 0) == b
  | .int a, .bl b => a == (if b then 1 else 0)
  | .int a, .int b => a == b
  | .str a, .str b => a == b
  | .tup xs, .tup ys => eqDs xs ys
  | _, _ => false
def eqDs : List Dt → List Dt → Bool
  | [], [] => true
  | x :: xs, y :: ys => eqD x y && eqDs xs ys
  | _, _ => false
end
mutual
def pl : Dt → Bool
  | .oth _ => false
  | .tup ds => pls ds
  | _ => true
def pls : List Dt → Bool
  | [] => true
  | d :: ds => pl d && pls ds
end
mutual
def dep : Dt → Nat
  | .tup ds => deps ds + 1
  | _ => 0
def deps : List Dt → Nat
  | [] => 0
  | d :: ds => max (dep d) (deps ds)
end
mutual
theorem eqD_refl : ∀ d : Dt, pl d = true → eqD d d = true
  | .non, _ => by unfold eqD; rfl
  | .bl b, _ => by unfold eqD; exact beq_self_eq_true b
  | .int i, _ => by unfold eqD; exact beq_self_eq_true i
  | .str x, _ => by unfold eqD; exact beq_self_eq_true x
  | .tup ds, h => by
    unfold eqD
    unfold pl at h
    exact eqDs_refl ds h
  | .oth T, h => by unfold pl at h; cases h
theorem eqDs_refl : ∀ ds : List Dt, pls ds = true → eqDs ds ds = true
  | [], _ => by unfold eqDs; rfl
  | d :: ds, h => by
    unfold eqDs
    unfold pls at h
    rw [Bool.and_eq_true] at h
    rw [eqD_refl d h.1, eqDs_refl ds h.2]; rfl
end
theorem eqD_tup (xs ys : List Dt) : eqD (.tup xs) (.tup ys) = eqDs xs ys := by unfold eqD; rfl
theorem eqDs_all : ∀ (ds es : List Dt), eqDs ds es = ((List.range (min ds.length es.length)).all (fun j => eqD (ds.getD j .non) (es.getD j .non)) && ds.length == es.length)
  | [], [] => by unfold eqDs; rfl
  | [], e :: es => by unfold eqDs; simp
  | d :: ds, [] => by unfold eqDs; simp
  | d :: ds, e :: es => by
    unfold eqDs
    rw [eqDs_all ds es]
    rw [List.length_cons, List.length_cons]
    have h1 : min (ds.length + 1) (es.length + 1) = min ds.length es.length + 1 := by omega
    rw [h1, List.range_succ_eq_map, List.all_cons, List.all_map]
    have h2 : ((ds.length + 1) == (es.length + 1)) = (ds.length == es.length) := by rw [Bool.eq_iff_iff]; simp
    rw [h2, Bool.and_assoc]
    rfl
theorem pls_get : ∀ {ds : List Dt} {i : Nat} {d : Dt}, pls ds = true → ds[i]? = some d → pl d = true
  | [], _, _, _, e => by simp at e
  | d :: ds, 0, _, h, e => by
    unfold pls at h
    rw [Bool.and_eq_true] at h
    simp at e; subst e; exact h.1
  | d :: ds, i + 1, x, h, e => by
    unfold pls at h
    rw [Bool.and_eq_true] at h
    exact pls_get (i := i) h.2 (by simpa using e)
theorem deps_get : ∀ {ds : List Dt} {i : Nat} {d : Dt}, ds[i]? = some d → dep d ≤ deps ds
  | [], _, _, e => by simp at e
  | d :: ds, 0, _, e => by
    simp at e; subst e
    unfold deps
    exact Nat.le_max_left _ _
  | d :: ds, i + 1, x, e => by
    have := deps_get (ds := ds) (i := i) (d := x) (by simpa using e)
    unfold deps
    exact Nat.le_trans this (Nat.le_max_right _ _)

section
variable {X : Cx} {pins : List (Addr × Obj)} {σ : St} {H : Hp} {s : Shared}
theorem Inv.tupD {v : V} {ds : List Dt} {u : Value} (I : Inv X pins σ H s) (h : IsD H v (.tup ds)) (r : RelV v u) : ∃ a its, u = .ref a ∧ v = .ref a ∧ s.heap.IsTuple a its.toArray ∧ ∃ xs, Vals xs its ∧ IsDs H xs ds ∧ its.length = ds.length := by
  obtain ⟨a, xs, rfl, ha, hd⟩ := h.tup_of
  cases (show u = Value.ref a from r)
  obtain ⟨its, rv, p, _⟩ := I.tuple (SqT.of (K := X.K) ha)
  exact ⟨a, its, rfl, rfl, p, xs, rv, hd, by rw [← rv.length, hd.length]⟩
/-- == of two data, at any depth -/
theorem eqAt_D : ∀ (n : Nat) {A : Around} {x y : V} {u v : Value} {d e : Dt}, dep d ≤ n → A.units + n < cLine → Inv X pins σ H s → IsD H x d → IsD H y e → RelV x u → RelV y v → pl d = true → pl e = true → SeqAt.EqAt A s u v (eqD d e) := by
  intro n
  induction n with
  | zero =>
    intro A x y u v d e hd hu I ix iy rx ry px py
    cases ix with
    | tup h r => unfold dep at hd; omega
    | lst h => unfold pl at px; cases px
    | dct h => unfold pl at px; cases px
    | non =>
      cases iy with
      | tup h' r' =>
        obtain ⟨a, its, rfl, _, hb, _⟩ := I.tupD (.tup h' r') ry
        cases rx
        exact SeqAt.EqAt.none_tuple hb (by omega)
      | lst h' => unfold pl at py; cases py
      | dct h' => unfold pl at py; cases py
      | non => exact eqAt_V rx ry rfl rfl
      | bl b => exact eqAt_V rx ry rfl rfl
      | int b => exact eqAt_V rx ry rfl rfl
      | str b => exact eqAt_V rx ry rfl rfl
    | bl b =>
      cases iy with
      | tup h' r' =>
        obtain ⟨a, its, rfl, _, hb, _⟩ := I.tupD (.tup h' r') ry
        cases rx
        exact SeqAt.EqAt.bool_tuple b hb (by omega)
      | lst h' => unfold pl at py; cases py
      | dct h' => unfold pl at py; cases py
      | non => exact eqAt_V rx ry rfl rfl
      | bl b => exact eqAt_V rx ry rfl rfl
      | int b => exact eqAt_V rx ry rfl rfl
      | str b => exact eqAt_V rx ry rfl rfl
    | int i =>
      cases iy with
      | tup h' r' =>
        obtain ⟨a, its, rfl, _, hb, _⟩ := I.tupD (.tup h' r') ry
        obtain ⟨t, rfl⟩ := rx
        exact SeqAt.EqAt.int_tuple i t hb (by omega)
      | lst h' => unfold pl at py; cases py
      | dct h' => unfold pl at py; cases py
      | non => exact eqAt_V rx ry rfl rfl
      | bl b => exact eqAt_V rx ry rfl rfl
      | int b => exact eqAt_V rx ry rfl rfl
      | str b => exact eqAt_V rx ry rfl rfl
    | str z =>
      cases iy with
      | tup h' r' =>
        obtain ⟨a, its, rfl, _, hb, _⟩ := I.tupD (.tup h' r') ry
        obtain ⟨t, rfl⟩ := rx
        exact SeqAt.EqAt.str_tuple z t hb (by omega)
      | lst h' => unfold pl at py; cases py
      | dct h' => unfold pl at py; cases py
      | non => exact eqAt_V rx ry rfl rfl
      | bl b => exact eqAt_V rx ry rfl rfl
      | int b => exact eqAt_V rx ry rfl rfl
      | str b => exact eqAt_V rx ry rfl rfl
  | succ n ih =>
    intro A x y u v d e hd hu I ix iy rx ry px py
    by_cases hz : dep d = 0
    · -- no tuple: as above
      cases ix with
      | tup h r => unfold dep at hz; omega
      | lst h => unfold pl at px; cases px
      | dct h => unfold pl at px; cases px
      | non => exact ih (by rw [hz]; exact Nat.zero_le _) (by omega) I .non iy rx ry px py
      | bl b => exact ih (by rw [hz]; exact Nat.zero_le _) (by omega) I (.bl b) iy rx ry px py
      | int i => exact ih (by rw [hz]; exact Nat.zero_le _) (by omega) I (.int i) iy rx ry px py
      | str z => exact ih (by rw [hz]; exact Nat.zero_le _) (by omega) I (.str z) iy rx ry px py
    · cases ix with
      | lst h => unfold pl at px; cases px
      | dct h => unfold pl at px; cases px
      | non => exact absurd (by unfold dep; rfl) hz
      | bl b => exact absurd (by unfold dep; rfl) hz
      | int i => exact absurd (by unfold dep; rfl) hz
      | str z => exact absurd (by unfold dep; rfl) hz
      | tup h r =>
        rename_i a xs ds
        cases (show u = Value.ref a from rx)
        obtain ⟨its, rv, p, _⟩ := I.tuple (SqT.of (K := X.K) h)
        have p : s.heap.IsTuple a its.toArray := p
        cases iy with
        | lst h' => unfold pl at py; cases py
        | dct h' => unfold pl at py; cases py
        | non => cases ry; exact SeqAt.EqAt.tuple_none p (by omega)
        | bl b => cases ry; exact SeqAt.EqAt.tuple_bool b p (by omega)
        | int b => obtain ⟨t, rfl⟩ := ry; exact SeqAt.EqAt.tuple_int b t p (by omega)
        | str b => obtain ⟨t, rfl⟩ := ry; exact SeqAt.EqAt.tuple_str b t p (by omega)
        | tup h' r' =>
          rename_i b ys es
          cases (show v = Value.ref b from ry)
          by_cases hab : a = b
          · subst hab
            have e1 : Dt.tup ds = Dt.tup es := IsD.inj (.tup h r) (.tup h' r')
            rw [e1]
            rw [eqD_refl _ py]
            exact SeqAt.EqAt.same _
          · obtain ⟨its2, rv2, p2, _⟩ := I.tuple (SqT.of (K := X.K) h')
            have p2 : s.heap.IsTuple b its2.toArray := p2
            have l1 : its.length = ds.length := by rw [← rv.length, r.length]
            have l2 : its2.length = es.length := by rw [← rv2.length, r'.length]
            have pd : pls ds = true := by unfold pl at px; exact px
            have pe : pls es = true := by unfold pl at py; exact py
            have hd' : deps ds ≤ n := by unfold dep at hd; omega
            have key := SeqAt.RcAt.tuples (A := A) (e := fun j => eqD (ds.getD j .non) (es.getD j .non)) p p2 (by omega) fun j h1 h2 => by
              have h1' : j < its.length := by simpa using h1
              have h2' : j < its2.length := by simpa using h2
              obtain ⟨x', ex, dx⟩ := r.at (i := j) (d := ds[j]'(by omega)) (List.getElem?_eq_getElem (by omega))
              obtain ⟨y', ey, dy⟩ := r'.at (i := j) (d := es[j]'(by omega)) (List.getElem?_eq_getElem (by omega))
              obtain ⟨u', eu, ru⟩ := rv.get ex
              obtain ⟨v', ev, rw'⟩ := rv2.get ey
              have eu' : its[j] = u' := by rw [List.getElem?_eq_getElem h1'] at eu; exact Option.some.inj eu
              have ev' : its2[j] = v' := by rw [List.getElem?_eq_getElem h2'] at ev; exact Option.some.inj ev
              have g1 : ds.getD j .non = ds[j]'(by omega) := by rw [List.getD_eq_getElem?_getD, List.getElem?_eq_getElem (by omega)]; rfl
              have g2 : es.getD j .non = es[j]'(by omega) := by rw [List.getD_eq_getElem?_getD, List.getElem?_eq_getElem (by omega)]; rfl
              show SeqAt.EqAt A.in1 s (its.toArray[j]) (its2.toArray[j]) (eqD (ds.getD j .non) (es.getD j .non))
              rw [List.getElem_toArray, List.getElem_toArray, eu', ev', g1, g2]
              exact ih (Nat.le_trans (deps_get (List.getElem?_eq_getElem (by omega))) hd') (by show A.units + 1 + n < cLine; omega) I dx dy ru rw' (pls_get pd (List.getElem?_eq_getElem (by omega))) (pls_get pe (List.getElem?_eq_getElem (by omega)))
            have e2 : eqD (.tup ds) (.tup es) = ((List.range (min its.toArray.size its2.toArray.size)).all (fun j => eqD (ds.getD j .non) (es.getD j .non)) && its.toArray.size == its2.toArray.size) := by
              rw [eqD_tup, eqDs_all, List.size_toArray, List.size_toArray, l1, l2]
            rw [e2]
            exact SeqAt.EqAt.of_refs hab key
end
end L2

/-! TEXTS: join, split, int of a text, f-strings, a text's signs; comprehensions over lists, ranges and texts; tuple(list). -/
namespace L2
open PySem PySem.Spec PyProof.Rows
section
variable {X : Cx}
/-- tuple(list) -/
theorem call_tupA : CallR X (.type "tuple") (fun xs H Q => ∃ p ys, xs = [.ref p] ∧ SqL X.K H p ys ∧ New H (.tup ys) Q) :=
  call_tuple_of.imp fun _ _ _ ⟨p, ys, e, h, q⟩ => ⟨p, ys, e, .inl ⟨h, q.of⟩⟩
theorem sl_listA : SlR X (fun x lo hi H Q => ∃ a xs, x = .ref a ∧ SqL X.K H a xs ∧ New H (.lst (cutV xs lo hi)) Q) :=
  sl_list.imp fun _ _ _ _ _ ⟨a, xs, e, h, q⟩ => ⟨a, xs, e, h, q.of⟩

/-! ### f-strings of ints and texts -/
/-! ### the signs of a text -/
/-! ### isinstance(x, str) -/
end

/-! ### comprehensions: over a list, a range, a text -/
theorem comp_list {K : PySem.W.Frag} {a : Addr} {xs : List V} {js : List Nat} {tt : TT} {te : TE} {σ : St} {H : Hp} {Q : VK} (Pv : Nat → List V → Hp → Prop) (h0 : Pv 0 [] H) (hl : ∀ i ys H, i ≤ xs.length → Pv i ys H → SqL K H a xs ∧ ys.length ≤ i) (hz : xs.length ≤ sizeLine)
    (hs : ∀ i x ys H, xs[i]? = some x → Pv i ys H → tt (some x :: blockSt σ js) H fun b H4 => if b = true then te (some x :: blockSt σ js) H4 fun y H5 => Pv (i + 1) (ys ++ [y]) H5 else Pv (i + 1) ys H4)
    (hd : ∀ ys H, Pv xs.length ys H → ∀ D, H D = none → Q (.ref D) (upd H D (.lst ys))) : CompW js tt te σ Q (Itl K a) H := by
  refine ⟨fun i m ys H => i ≤ xs.length ∧ m = xs.length - i ∧ Pv i ys H, ⟨_, Nat.zero_le _, rfl, h0⟩, fun i m ys H2 ⟨hi, hm, hp⟩ => ?_⟩
  obtain ⟨hq, hy⟩ := hl i ys H2 hi hp
  by_cases e : i = xs.length
  · subst e
    exact .inl ⟨⟨xs, hq, Nat.le_refl _⟩, hd ys H2 hp⟩
  · have hlt : i < xs.length := Nat.lt_of_le_of_ne hi e
    refine .inr ⟨⟨xs, _, hq, List.getElem?_eq_getElem hlt⟩, by omega, Pv (i + 1), fun ys' H' hp' => ⟨xs.length - (i + 1), by omega, by omega, rfl, hp'⟩, fun x H3 hy3 => ?_⟩
    obtain ⟨e3, hx⟩ := hy3
    subst e3
    exact hs i x ys H3 (hx xs hq) hp
theorem comp_range {lo : Int} {n : Nat} {js : List Nat} {tt : TT} {te : TE} {σ : St} {H : Hp} {Q : VK} (Pv : Nat → List V → Hp → Prop) (h0 : Pv 0 [] H) (hl : ∀ i ys H, i ≤ n → Pv i ys H → ys.length ≤ i) (hz : n ≤ sizeLine)
    (hs : ∀ (i : Nat) ys H, i < n → Pv i ys H → tt (some (.int (lo + i)) :: blockSt σ js) H fun b H4 => if b = true then te (some (.int (lo + i)) :: blockSt σ js) H4 fun y H5 => Pv (i + 1) (ys ++ [y]) H5 else Pv (i + 1) ys H4)
    (hd : ∀ ys H, Pv n ys H → ∀ D, H D = none → Q (.ref D) (upd H D (.lst ys))) : CompW js tt te σ Q (Itr lo n) H := by
  refine ⟨fun i m ys H => i ≤ n ∧ m = n - i ∧ Pv i ys H, ⟨_, Nat.zero_le _, rfl, h0⟩, fun i m ys H2 ⟨hi, hm, hp⟩ => ?_⟩
  have hy := hl i ys H2 hi hp
  by_cases e : i = n
  · subst e
    exact .inl ⟨Nat.le_refl _, hd ys H2 hp⟩
  · have hlt : i < n := Nat.lt_of_le_of_ne hi e
    refine .inr ⟨hlt, by omega, Pv (i + 1), fun ys' H' hp' => ⟨n - (i + 1), by omega, by omega, rfl, hp'⟩, fun x H3 hy3 => ?_⟩
    obtain ⟨e3, hx⟩ := hy3
    subst e3 hx
    exact hs i ys H3 hlt hp
end L2

/-! enumerate(t) of a tuple, walked by a loop with two targets. -/
namespace L2
open PySem PySem.Spec PyProof.Rows
section
variable {prog : Program} {w : World} {A : Around} {E : Value → Shared → Prop} {s : Shared}
end
section
open AutoSeq1 (wpAny_loadPart')
end
/-! ### by the layer -/
section
variable {X : Cx}
end
end L2

/-! x = [.. for .. in ..] where the store takes the value out of the block. -/
namespace L2
open PySem PySem.Spec PyProof.Rows
/-- an item that is not starred; the rest is not looked at -/
def notStar : Expr → Bool
  | .Starred _ _ => false
  | _ => true
theorem starEach_not {e : Expr} {es : List Expr} {env : Env} (h : notStar e = true) : starEach (e :: es) env = (false, eval e env) :: starEach es env := by
  cases e <;> first | rfl | cases h
theorem pa_k {X : Cx} {e : Expr} {es : List Expr} {te : TE} {t : TA} (ha : PE X e te) (hr : PA X es t) (h : notStar e = true := by rfl) : PA X (e :: es) (tCons te t) := pa_cons ha hr (starEach_not h)
end L2

/-! The judgements as structures: what stands in them is not looked into (lists of many constants). -/
namespace L2
open PySem PySem.Spec PyProof.Rows
structure PEs (X : Cx) (e : Expr) (t : TE) : Prop where
  h : PE X e t
structure PAs (X : Cx) (es : List Expr) (t : TA) : Prop where
  h : PA X es t
structure PSt (X : Cx) (st : Stmt) (t : TS) : Prop where
  h : PS X st t
structure PIs (X : Cx) (tg it : Expr) (t : TI) : Prop where
  h : PI X tg it t
theorem ps_cutK {X : Cx} {st : Stmt} {t : TS} (h : PS X st t) : PS X st (fun D σ H => ∃ N : St → Hp → Prop, (∀ σ' H', N σ' H' → D.nx σ' H') ∧ t { D with nx := N } σ H) := by
  intro pins s σ H D I ⟨N, hN, ht⟩
  refine thn (h pins s σ H { D with nx := N } I ht) fun f s' q => ?_
  cases f with
  | next => obtain ⟨σ', H', I', n'⟩ := q; exact ⟨σ', H', I', hN _ _ n'⟩
  | brk => exact q
  | cont => exact q
  | ret u => exact q
/-- the same, as a structure -/
theorem PSt.cut {X : Cx} {st : Stmt} {t : TS} (h : PSt X st t) : PSt X st (fun D σ H => ∃ N : St → Hp → Prop, (∀ σ' H', N σ' H' → D.nx σ' H') ∧ t { D with nx := N } σ H) := ⟨ps_cutK h.h⟩
structure PSl (X : Cx) (sts : List Stmt) (t : TS) : Prop where
  h : PSs X sts t
section
variable {X : Cx} {a b e : Expr} {es : List Expr} {ta tb te : TE} {t : TA} {pos : Pos}
theorem k_int {i j} : PEs X (.Constant (.int i) j pos) (tC (.int i)) := ⟨pe_int⟩
theorem k_op {op : Operator} {r : R2} (ho : OpR X (binaryOp op) r) (ha : PEs X a ta) (hb : PEs X b tb) : PEs X (.BinOp a op b pos) (tOp r ta tb) := ⟨pe_op ho ha.h hb.h⟩
theorem k_ix {r : R2} (hr : IxR X r) (ha : PEs X a ta) (hb : PEs X b tb) (hs : PlainIx b) : PEs X (.Subscript a b pos) (tOp r ta tb) := ⟨pe_ix hr ha.h hb.h hs⟩
theorem a_nil : PAs X [] tNil := ⟨pa_nil⟩
theorem a_cons (ha : PEs X e te) (hr : PAs X es t) (h : notStar e = true := by rfl) : PAs X (e :: es) (tCons te t) := ⟨pa_k ha.h hr.h h⟩
theorem l_cons {st : Stmt} {sts : List Stmt} {t u : TS} (a : PSt X st t) (b : PSl X sts u) : PSl X (st :: sts) (tSeq t u) := ⟨pss_cons a.h b.h⟩
theorem l_one {st : Stmt} {t : TS} (a : PSt X st t) : PSl X [st] t := ⟨pss_one a.h⟩
end
end L2

/-! products of great numbers; tuples told unlike; lists of whole numbers told alike or unlike. -/
namespace L2
open PySem PySem.Spec PyProof.Rows
section
variable {X : Cx}
/-- d != e of two tuples -/
theorem op_neD (hu : X.A.units + 64 < cLine) : OpR X (compareOp .NotEq) (fun x y H Q => ∃ ds es, IsD H x (.tup ds) ∧ IsD H y (.tup es) ∧ pls ds = true ∧ pls es = true ∧ deps ds < 60 ∧ Q (.bl (!(eqDs ds es))) H) := by
  intro pins s σ H x y v u Q I rx ry h
  obtain ⟨ds, es, ix, iy, pd, pe, hd, q⟩ := h
  obtain ⟨a, xs, rfl, ha, r⟩ := ix.tup_of
  obtain ⟨b, ys, rfl, hb, r'⟩ := iy.tup_of
  cases (show v = Value.ref a from rx)
  cases (show u = Value.ref b from ry)
  obtain ⟨its, rv, p, _⟩ := I.tuple (SqT.of (K := X.K) ha)
  obtain ⟨its2, rv2, p2, _⟩ := I.tuple (SqT.of (K := X.K) hb)
  have p : s.heap.IsTuple a its.toArray := p
  have p2 : s.heap.IsTuple b its2.toArray := p2
  have l1 : its.length = ds.length := by rw [← rv.length, r.length]
  have l2 : its2.length = es.length := by rw [← rv2.length, r'.length]
  have key := SeqAt.RcNeAt.tuples (A := X.A) (e := fun j => eqD (ds.getD j .non) (es.getD j .non)) p p2 (by omega) (fun j h1 h2 => by
    have h1' : j < its.length := by simpa using h1
    have h2' : j < its2.length := by simpa using h2
    obtain ⟨x', ex, dx⟩ := r.at (i := j) (d := ds[j]'(by omega)) (List.getElem?_eq_getElem (by omega))
    obtain ⟨y', ey, dy⟩ := r'.at (i := j) (d := es[j]'(by omega)) (List.getElem?_eq_getElem (by omega))
    obtain ⟨u', eu, ru⟩ := rv.get ex
    obtain ⟨v', ev, rw'⟩ := rv2.get ey
    have eu' : its[j] = u' := by rw [List.getElem?_eq_getElem h1'] at eu; exact Option.some.inj eu
    have ev' : its2[j] = v' := by rw [List.getElem?_eq_getElem h2'] at ev; exact Option.some.inj ev
    have g1 : ds.getD j .non = ds[j]'(by omega) := by rw [List.getD_eq_getElem?_getD, List.getElem?_eq_getElem (by omega)]; rfl
    have g2 : es.getD j .non = es[j]'(by omega) := by rw [List.getD_eq_getElem?_getD, List.getElem?_eq_getElem (by omega)]; rfl
    show SeqAt.EqAt X.A.in1 s (its.toArray[j]) (its2.toArray[j]) (eqD (ds.getD j .non) (es.getD j .non))
    rw [List.getElem_toArray, List.getElem_toArray, eu', ev', g1, g2]
    exact eqAt_D 60 (Nat.le_trans (deps_get (List.getElem?_eq_getElem (by omega))) (by omega)) (by show X.A.units + 1 + 60 < cLine; omega) I dx dy ru rw' (pls_get pd (List.getElem?_eq_getElem (by omega))) (pls_get pe (List.getElem?_eq_getElem (by omega))))
  refine key X.prog X.w _ _ (fin_bl I q ?_)
  rw [eqDs_all, List.size_toArray, List.size_toArray, l1, l2]
theorem ints_are : ∀ {ns : List Int} {us : List Value}, Vals (ns.map V.int) us → IntsAre us ns
  | [], _, .nil => .nil
  | _ :: _, _, .cons ⟨_, e⟩ r => by cases e; exact .cons _ _ (ints_are r)
theorem op_eqI (hu : X.A.units + 64 < cLine) : OpR X (compareOp .Eq) (fun x y H Q => ∃ (a b : Addr) (ns ms : List Int), x = .ref a ∧ y = .ref b ∧ SqL X.K H a (ns.map V.int) ∧ SqL X.K H b (ms.map V.int) ∧ Q (.bl (decide (ns = ms))) H) := by
  intro pins s σ H x y v u Q I rx ry h
  obtain ⟨a, b, ns, ms, rfl, rfl, ha, hb, q⟩ := h
  cases (show v = Value.ref a from rx)
  cases (show u = Value.ref b from ry)
  obtain ⟨its, rv, p, _⟩ := I.list ha
  obtain ⟨its2, rv2, p2, _⟩ := I.list hb
  exact PySem.W.ke_eq_ints p.isList p2.isList (ints_are rv) (ints_are rv2) hu (fin_bl I q rfl)
theorem op_neI (hu : X.A.units + 64 < cLine) : OpR X (compareOp .NotEq) (fun x y H Q => ∃ (a b : Addr) (ns ms : List Int), x = .ref a ∧ y = .ref b ∧ SqL X.K H a (ns.map V.int) ∧ SqL X.K H b (ms.map V.int) ∧ Q (.bl (!(decide (ns = ms)))) H) := by
  intro pins s σ H x y v u Q I rx ry h
  obtain ⟨a, b, ns, ms, rfl, rfl, ha, hb, q⟩ := h
  cases (show v = Value.ref a from rx)
  cases (show u = Value.ref b from ry)
  obtain ⟨its, rv, p, _⟩ := I.list ha
  obtain ⟨its2, rv2, p2, _⟩ := I.list hb
  exact PySem.W.ke_ne_ints p.isList p2.isList (ints_are rv) (ints_are rv2) hu (fin_bl I q rfl)
theorem eqDs_ints : ∀ ns ms : List Int, eqDs (ns.map Dt.int) (ms.map Dt.int) = decide (ns = ms)
  | [], [] => by unfold eqDs; rfl
  | [], _ :: _ => by unfold eqDs; rfl
  | _ :: _, [] => by unfold eqDs; rfl
  | n :: ns, m :: ms => by
    rw [List.map_cons, List.map_cons]
    unfold eqDs
    rw [eqDs_ints ns ms]
    unfold eqD
    by_cases h : n = m
    · by_cases h' : ns = ms
      · simp [h, h']
      · simp [h, h']
    · simp [h]
theorem pls_ints : ∀ ns : List Int, pls (ns.map Dt.int) = true
  | [] => by unfold pls; rfl
  | n :: r => by rw [List.map_cons]; unfold pls; rw [pls_ints r]; unfold pl; rfl
theorem deps_ints : ∀ ns : List Int, deps (ns.map Dt.int) = 0
  | [] => by unfold deps; rfl
  | n :: r => by rw [List.map_cons]; unfold deps; rw [deps_ints r]; unfold dep; rfl
end
end L2

/-! comprehensions with any targets: over pairs that an iterator makes. -/
namespace L2
open PySem PySem.Spec PyProof.Rows
end L2

/-! zip(t, u) of two tuples. -/
namespace L2
open PySem PySem.Spec PyProof.Rows
section
variable {prog : Program} {w : World} {A : Around} {E : Value → Shared → Prop} {s : Shared}
end
section
variable {X : Cx}
end
end L2

/-! t[::-1] and t[a:b] of tuples, also the whole of one; sum of a list of whole numbers. -/
namespace L2
open PySem PySem.Spec PyProof.Rows
theorem fm_some {α β : Type} {f : α → Option β} {g : α → β} : ∀ (l : List α), (∀ x ∈ l, f x = some (g x)) → l.filterMap f = l.map g
  | [], _ => rfl
  | x :: l, h => by rw [List.filterMap_cons, h x (by simp), List.map_cons, fm_some l fun y hy => h y (List.mem_cons_of_mem _ hy)]
theorem pick_back (xs : Array Value) : ((List.range xs.size).filterMap fun (k : Nat) => xs[((xs.size : Int) - 1 + (k : Int) * (-1)).toNat]?) = xs.toList.reverse := by
  have e : ∀ k ∈ List.range xs.size, (fun (k : Nat) => xs[((xs.size : Int) - 1 + (k : Int) * (-1)).toNat]?) k = some ((fun k => xs.toList.getD (xs.size - 1 - k) .none) k) := fun k hk => by
    have hk := List.mem_range.mp hk
    have : ((xs.size : Int) - 1 + (k : Int) * (-1)).toNat = xs.size - 1 - k := by omega
    show xs[((xs.size : Int) - 1 + (k : Int) * (-1)).toNat]? = some (xs.toList.getD (xs.size - 1 - k) .none)
    rw [this, List.getD_eq_getElem?_getD, Array.getElem?_toList, Array.getElem?_eq_getElem (by omega)]
    rfl
  rw [fm_some _ e]
  refine List.ext_getElem (by simp) fun i h1 h2 => ?_
  have hi : i < xs.size := by simpa using h1
  rw [List.getElem_map, List.getElem_range, List.getElem_reverse, List.getD_eq_getElem?_getD, List.getElem?_eq_getElem (by rw [Array.length_toList]; omega)]
  simp
section
variable {prog : Program} {w : World} {A : Around} {E : Value → Shared → Prop} {s : Shared}
end
section
variable {X : Cx}
theorem vals_back : ∀ {xs : List V} {us : List Value}, Vals xs us → Vals xs.reverse us.reverse
  | _, _, .nil => .nil
  | _ :: _, _ :: _, .cons r t => by rw [List.reverse_cons, List.reverse_cons]; exact (vals_back t).append (.cons r .nil)
/-- sum(l) -/
theorem call_sum (hc : X.calm = true) : CallR X (.builtin "sum") (fun xs H Q => ∃ (p : Addr) (ns : List Int), xs = [.ref p] ∧ SqL X.K H p (ns.map V.int) ∧ Q (.int ns.sum) H) := by
  intro pins s σ H xs us Q I r h
  obtain ⟨p, ns, rfl, hq, q⟩ := h
  obtain ⟨u, rfl, ru⟩ := vals1 r
  cases (show u = Value.ref p from ru)
  obtain ⟨its, rv, pl, hz⟩ := I.list hq
  have hi := ints_are rv
  obtain ⟨ys, hx⟩ := hi.allInts.items
  have hl' : s.heap.IsList p (intItems ys) := hx ▸ pl.isList
  refine sum_intListG (I.ok.hd hc) hl' fun h' tk t' hk => ?_
  have e1 : ns = ys.toList.map (·.1) := by
    rw [← nums_intItems, ← hx]
    exact (show numsOf its.toArray.toList = ns from hi.numsOf).symm
  have e2 : preSum (numAt ys) ys.size = ns.sum := by
    rw [preSum_eq, List.take_of_length_le (by simp), e1]
  rw [e2]
  exact ⟨.int ns.sum, H, I.kept (t' := tk) hk, ⟨t', rfl⟩, q⟩
end
end L2

/-! l != []; t * 10, also of the empty one; comprehensions over a tuple of pairs. -/
namespace L2
open PySem PySem.Spec PyProof.Rows
section
variable {X : Cx}
theorem op_neL0 (hu : X.A.units < cLine) : OpR X (compareOp .NotEq) (fun x y H Q => ∃ a b xs, x = .ref a ∧ y = .ref b ∧ SqL X.K H a xs ∧ SqL X.K H b [] ∧ Q (.bl (!xs.isEmpty)) H) := by
  intro pins s σ H x y v u Q I rx ry h
  obtain ⟨a, b, xs, rfl, rfl, ha, hb, q⟩ := h
  cases (show v = Value.ref a from rx)
  cases (show u = Value.ref b from ry)
  obtain ⟨its, r1, p1, _⟩ := I.list ha
  obtain ⟨its2, r2, p2, _⟩ := I.list hb
  cases r2
  cases r1 with
  | nil =>
    refine SeqAt.RcNeAt.lists (A := X.A) (e := fun _ => true) p1.isList p2.isList rfl hu (fun j h1 _ => absurd h1 (by simp)) X.prog X.w _ _ (fin_bl I q (by simp))
  | cons _ _ => exact SeqAt.RcNeAt.lists_lengths (A := X.A) p1.isList p2.isList (by simp) hu X.prog X.w _ _ (fin_bl I q (by simp))
end
section
open AutoSeq1 (wpAny_loadPart')
end
section
variable {X : Cx}
end
end L2

/-! set(l) of a list of whole numbers, and how many it has. -/
namespace L2
open PySem PySem.Spec PyProof.Rows
def metL (ns : List Int) : List Int := firstMet (fun i => ns.getD i 0) ns.length
section
variable {X : Cx}
end
end L2

/-! more judgements as structures. -/
namespace L2
open PySem PySem.Spec PyProof.Rows
section
variable {X : Cx} {e : Expr} {es : List Expr} {te : TE} {t : TA} {pos : Pos}
end
end L2

/-! list(range(n)); t[::d] with d 1 or -1. -/
namespace L2
open PySem PySem.Spec PyProof.Rows
theorem vals_at : ∀ {xs : List V} {us : List Value}, xs.length = us.length → (∀ (i : Nat) (x : V), xs[i]? = some x → ∃ u, us[i]? = some u ∧ RelV x u) → Vals xs us
  | [], [], _, _ => .nil
  | [], _ :: _, h, _ => by cases h
  | _ :: _, [], h, _ => by cases h
  | x :: xs, u :: us, h, k => by
    obtain ⟨u', e, r⟩ := k 0 x rfl
    cases e
    exact .cons r (vals_at (by simpa using h) fun i y hy => k (i + 1) y hy)
section
variable {X : Cx}
theorem call_rng1 : CallR X (.type "range") (fun xs H Q => ∃ j : Int, xs = [.int j] ∧ New H (.rng 0 j) Q) := by
  intro pins s σ H xs us Q I r h
  obtain ⟨j, rfl, q⟩ := h
  obtain ⟨u, rfl, ru⟩ := vals1 r
  obtain ⟨t, rfl⟩ := (show ∃ t, u = Value.int j t from ru)
  refine call_range_1 ?_
  exact ⟨.ref s.heap.objs.size, _, I.laid (t' := s.toks + 1 + 1) (o := .rng 0 j) (fun _ _ z => Heap.get?_push_of_some _ z) (Nat.le_refl _) ⟨_, _, _, Heap.get?_push_size _ rfl⟩, rfl, q.of _ I.fresh⟩
theorem call_listR (hc : X.calm = true) : CallR X (.type "list") (fun xs H Q => ∃ (a : Addr) (n : Nat), xs = [.ref a] ∧ H a = some (.rng 0 (n : Int)) ∧ n ≤ 1000 ∧ ∀ l, H l = none → Q (.ref l) (upd H l (.lst ((List.range n).map fun k => V.int (k : Nat))))) := by
  intro pins s σ H xs us Q I r h
  obtain ⟨a, n, rfl, ha, hn, q⟩ := h
  obtain ⟨u, rfl, ru⟩ := vals1 r
  cases (show u = Value.ref a from ru)
  obtain ⟨t, u, v, hr⟩ := I.hok a _ ha
  have hs : Builtin.Range.rangeSize 0 (n : Int) 1 = n := by
    unfold Builtin.Range.rangeSize
    rw [if_pos (by decide)]
    by_cases h0 : (0 : Int) < n
    · rw [if_pos h0, Int.ediv_one]; omega
    · rw [if_neg h0]; omega
  refine call_list_range (n := n) (I.ok.hd hc) hr (by unfold Builtin.Range.small; rw [hs]; unfold Builtin.Range.rangeFitsLong; simp; omega) hs (by omega) fun h' tk acc c hk hg hi => ?_
  refine ⟨.ref s.heap.objs.size, _, I.laid (t' := tk) (o := .lst ((List.range n).map fun k => V.int (k : Nat))) hk (Nat.le_refl _) ⟨?_, acc.toList, c, ?_, ?_⟩, rfl, q _ I.fresh⟩
  · rw [List.length_map, List.length_range]; exact Nat.le_trans hn (by decide)
  · refine vals_at (by rw [List.length_map, List.length_range, Array.length_toList, hi.1]) fun i x hx => ?_
    rw [List.getElem?_map] at hx
    obtain ⟨k, hk2, rfl⟩ := Option.map_eq_some_iff.mp hx
    have hik : i < n := by have := (List.getElem?_eq_some_iff.mp hk2).1; rw [List.length_range] at this; exact this
    rw [List.getElem?_range hik] at hk2
    cases hk2
    have hi2 : i < acc.size := by rw [hi.1]; exact hik
    have e := Array.getElem?_eq_getElem hi2
    obtain ⟨t2, e2⟩ := hi.2 i _ e
    refine ⟨_, by rw [Array.getElem?_toList]; exact e, ⟨t2, ?_⟩⟩
    rw [e2]
    congr 1
    omega
  · rw [Array.toArray_toList]; exact hg
end
section
variable {prog : Program} {w : World} {A : Around} {E : Value → Shared → Prop} {s : Shared}
end
section
variable {X : Cx}
end
end L2

/-! a written list at an address of its own. -/
namespace L2
open PySem PySem.Spec PyProof.Rows
section
variable {X : Cx}
theorem k_lstF {es : List Expr} {t : TA} {pos : Pos} (h : PAs X es t) : PEs X (.List es pos) (tLst t) := ⟨pe_lst h.h⟩
end
end L2

/-! l[::-1] of a list. -/
namespace L2
open PySem PySem.Spec PyProof.Rows
theorem pick_backL (its : List Value) : slicePick its.toArray none none (some (-1)) = its.reverse.toArray := by
  unfold slicePick
  have e0 : sliceBounds none none (some (-1)) its.toArray.size = ((its.length : Int) - 1, -1, -1) := by
    rw [List.size_toArray]; rfl
  rw [e0]
  show ((sliceRange ((its.length : Int) - 1) (-1) (-1)).filterMap (its.toArray[·]?)).toArray = _
  unfold sliceRange
  have ec : (if (-1 : Int) > 0 then (if (its.length : Int) - 1 < -1 then (-1 - ((its.length : Int) - 1) + -1 - 1) / -1 else 0) else (if (its.length : Int) - 1 > -1 then ((its.length : Int) - 1 - -1 - -1 - 1) / (- -1) else 0)) = (its.length : Int) := by
    rw [if_neg (by decide), show -(-1 : Int) = 1 from rfl, Int.ediv_one]
    split <;> omega
  show (((List.range (if (-1 : Int) > 0 then (if (its.length : Int) - 1 < -1 then (-1 - ((its.length : Int) - 1) + -1 - 1) / -1 else 0) else (if (its.length : Int) - 1 > -1 then ((its.length : Int) - 1 - -1 - -1 - 1) / (- -1) else 0)).toNat).map fun (k : Nat) => ((its.length : Int) - 1 + -1 * (k : Int)).toNat).filterMap (its.toArray[·]?)).toArray = _
  rw [ec, Int.toNat_natCast, List.filterMap_map]
  have h := pick_back its.toArray
  rw [List.size_toArray] at h
  congr 1
  rw [← h]
  refine congrArg (fun f => List.filterMap f (List.range its.length)) (funext fun k => ?_)
  show its.toArray[((its.length : Int) - 1 + -1 * (k : Int)).toNat]? = its.toArray[((its.length : Int) - 1 + (k : Int) * (-1)).toNat]?
  rw [Int.mul_comm]
section
variable {X : Cx}
def tBackL (te : TE) : TE := fun σ H Q => te σ H fun x H1 => ∃ a xs, x = .ref a ∧ H1 a = some (.lst xs) ∧ New H1 (.lst xs.reverse) Q
theorem pe_backL {e : Expr} {te : TE} {pos p1 p2 p3 : Pos} {j} (he : PE X e te) : PE X (.Subscript e (.Slice none none (some (.UnaryOp .USub (.Constant (.int 1) j p3) p1)) p2) pos) (tBackL te) := by
  intro pins s σ H Q I h
  refine Subscript_ (thn (he pins s σ H _ I h) fun v s1 ⟨x, H1, I1, r1, q1⟩ => ?_)
  obtain ⟨a, xs, rfl, hx, q⟩ := q1
  refine wpAny_Slice ?_
  rw [evalPart_none, evalPart_some]
  refine wpAny_pure (wpAny_pure ?_)
  refine thn ((pe_un un_neg pe_int : PE X (.UnaryOp .USub (.Constant (.int 1) j p3) p1) _) pins s1 σ H1 (fun x H2 => x = .int (-1) ∧ H2 = H1) I1 ⟨_, rfl, rfl, rfl⟩) fun u s2 ⟨x2, H2, I2, r2, e2, e3⟩ => ?_
  subst e2 e3
  obtain ⟨t, rfl⟩ := r2
  cases r1
  have I4 : Inv X pins σ H2 { s2 with heap := s2.heap.push { cls := .type "slice", data := .fields #[.none, .none, .int (-1) t] } } := I2.kept (t' := s2.toks) fun b ob q => Heap.get?_push_of_some _ q
  obtain ⟨its, r, ht, hz⟩ := I4.list (SqL.of (K := X.K) hx)
  have hlen : its.length = xs.length := r.length.symm
  refine tail_any (ops := [.ref a, .ref s2.heap.objs.size]) ht.isList.typeIs slot_list_getitem.lookup (wpAny_getItem_list_slice ht.isList (Heap.IsSliceOf.new ..) .none .none (.int (-1) t) (by decide) ?_ (by rw [List.size_toArray, hlen]; exact hz)) (by with_unfolding_all rfl)
  rw [pick_backL]
  refine ⟨.ref _, _, I4.laid (t' := s2.toks) (o := .lst xs.reverse) (fun _ _ z => Heap.get?_push_of_some _ z) (Nat.le_refl _) ⟨by rw [List.length_reverse]; exact hz, its.reverse, 0, vals_back r, Heap.get?_push_size _ rfl⟩, rfl, q.of _ I4.fresh⟩
end
end L2

/-! THE PROGRAM's own defs: what is a net. -/
namespace HN
open PySem L2 PyProof.Rows

/-! ### 1. the mathematics -/
def isI : V → Bool
  | .int _ => true
  | _ => false
def iv : V → Int
  | .int i => i
  | _ => 0
/-- its sort is known; so are those of its items, and of theirs -/
def Kn (H : Hp) (v : V) : Prop := ∃ T, tyn H v = some T
def Below (P : V → Prop) (H : Hp) (v : V) : Prop := Kn H v ∧ ∀ a xs, v = .ref a → H a = some (.tup xs) → ∀ x ∈ xs, P x
abbrev G1 (H : Hp) (v : V) : Prop := Below (Kn H) H v
abbrev G2 (H : Hp) (v : V) : Prop := Below (G1 H) H v
abbrev G3 (H : Hp) (v : V) : Prop := Below (G2 H) H v

theorem tyn_same {H H' : Hp} (e : Same H H') {v : V} {T : String} (h : tyn H v = some T) : tyn H' v = some T := by
  cases v with
  | ref a =>
    simp only [tyn] at h ⊢
    cases q : H a with
    | none => rw [q] at h; cases h
    | some o => rw [e a o q]; rw [q] at h; exact h
  | _ => exact h
theorem Kn.same {H H' : Hp} (e : Same H H') {v : V} (h : Kn H v) : Kn H' v := let ⟨T, q⟩ := h; ⟨T, tyn_same e q⟩
theorem Kn.tracked {H : Hp} {a : Addr} (h : Kn H (.ref a)) : ∃ o, H a = some o := by
  obtain ⟨T, h⟩ := h
  simp only [tyn] at h
  cases q : H a with
  | none => rw [q] at h; cases h
  | some o => exact ⟨o, rfl⟩
theorem Below.same {P P' : V → Prop} {H H' : Hp} (e : Same H H') (hp : ∀ x, P x → P' x) {v : V} (h : Below P H v) : Below P' H' v := by
  refine ⟨h.1.same e, fun a xs ev ha x hx => ?_⟩
  subst ev
  obtain ⟨o, q⟩ := h.1.tracked
  have q' := e a o q
  rw [ha] at q'
  cases q'
  exact hp x (h.2 a xs rfl q x hx)
theorem G1.same {H H' : Hp} (e : Same H H') {v : V} (h : G1 H v) : G1 H' v := Below.same e (fun _ q => q.same e) h
theorem G2.same {H H' : Hp} (e : Same H H') {v : V} (h : G2 H v) : G2 H' v := Below.same e (fun _ q => G1.same e q) h
theorem G3.same {H H' : Hp} (e : Same H H') {v : V} (h : G3 H v) : G3 H' v := Below.same e (fun _ q => G2.same e q) h

theorem sort_int {H : Hp} {v : V} {T : String} (h : tyn H v = some T) : (T == "int" || T == "bool") = true → (!(T == "bool")) = isI v := by
  cases v with
  | ref a =>
    simp only [tyn] at h
    cases q : H a with
    | none => rw [q] at h; cases h
    | some o => rw [q] at h; cases o <;> first | (cases h; intro z; exact absurd z (by decide)) | cases h
  | non => cases h; intro z; exact absurd z (by decide)
  | bl b => cases h; intro _; show (!("bool" == "bool")) = false; decide
  | int i => cases h; intro _; show (!("int" == "bool")) = true; decide
  | str x => cases h; intro z; exact absurd z (by decide)
  | _ => cases h
theorem sort_noInt {H : Hp} {v : V} {T : String} (h : tyn H v = some T) : ¬ (T == "int" || T == "bool") = true → isI v = false := by
  cases v with
  | int i => cases h; intro z; exact absurd (by decide) z
  | _ => intro _; rfl
theorem iteB {b : Bool} {A B : Prop} (h : b = true) (x : A) : if b = true then A else B := by rw [if_pos h]; exact x
theorem iteC {b : Bool} {A B : Prop} (h : b = false) (x : B) : if b = true then A else B := by rw [if_neg (by rw [h]; exact Bool.false_ne_true)]; exact x

/-! ### 2. what the text has -/
structure Nm (mg : Str → Option Value) : Prop where
  isin : mg "isinstance" = none
  tint : mg "int" = none
  tbool : mg "bool" = none
  ttup : mg "tuple" = none
  len : mg "len" = none
  min : mg "min" = none
  all : mg "all" = none
structure Cs (mg : Str → Option Value) : Prop where
  mh : ∃ t, mg "MOST_HAPPENINGS" = some (.int 16 t)
  ms : ∃ t, mg "MOST_SPANS" = some (.int 40 t)
  mw : ∃ t, mg "MOST_WEIGHT" = some (.int 1000000000000 t)
structure Fn (K : PySem.W.Frag) (mg : Str → Option Value) (x : Str) (st : Stmt) (ps : List Str) (f : Addr) (fd : FuncData) : Prop where
  F : Fun K x x st f fd
  mg : mg x = some (.ref f)
  b : Binds K fd ps []
theorem pc1 {X : Cx} {k : Nat} {f : Addr} {fd : FuncData} {ps : List Str} {sp : Sp} {x : Str} {st : Stmt} {p pos : Pos} {e : Expr} {es : List Expr} {t : TA} (G : Fn X.K X.mg x st ps f fd) (F : FnOk X.prog X.w X.K X.mg X.base CX0 k f fd ps sp) (hr : Room k X.A)
    (ha : PA X (e :: es) t) (hg : Gl X x := by rfl) (hdb : (x == ("__debug__" : Str)) = false := by decide) (he : starEach (e :: es) X.env = (false, eval e X.env) :: starEach es X.env := by rfl) (hpl : (backTo pos (starEach es X.env)).any (·.1) = false := by rfl) :
    PE X (.Call (.Name x p) (e :: es) [] pos) (tCall sp [] E0 t) := pe_call F hr hg G.mg G.F.kp G.b .nil pass0 ha hdb he hpl
/-- isinstance(e, T) -/
theorem pe_isTup {X : Cx} {e : Expr} {te : TE} {p p2 pos : Pos} (N : Nm X.mg) (he : PE X e te) (hg : Gl X "isinstance" := by rfl) (hg2 : Gl X "tuple" := by rfl)
    (hs1 : starEach [e, .Name "tuple" p2] X.env = (false, eval e X.env) :: starEach [.Name "tuple" p2] X.env := by rfl) (hpl : (backTo pos (starEach [.Name "tuple" p2] X.env)).any (·.1) = false := by rfl) :
    PE X (.Call (.Name "isinstance" p) [e, .Name "tuple" p2] [] pos) (tCB (fun xs H Q => ∃ x T, xs = [x, .ty "tuple"] ∧ tyn H x = some T ∧ Q (.bl (T == "tuple")) H) (tCons te (tCons (tC (.ty "tuple")) tNil))) :=
  pe_callB call_isTup hg N.isin boot_isinstance (pa_cons he (pa_cons (pe_bltn hg2 N.ttup boot_tuple rfl) pa_nil) hs1) (he := hs1) (hpl := hpl)
theorem pe_isInt {X : Cx} {e : Expr} {te : TE} {p p2 pos : Pos} (N : Nm X.mg) (he : PE X e te) (hg : Gl X "isinstance" := by rfl) (hg2 : Gl X "int" := by rfl)
    (hs1 : starEach [e, .Name "int" p2] X.env = (false, eval e X.env) :: starEach [.Name "int" p2] X.env := by rfl) (hpl : (backTo pos (starEach [.Name "int" p2] X.env)).any (·.1) = false := by rfl) :
    PE X (.Call (.Name "isinstance" p) [e, .Name "int" p2] [] pos) (tCB (fun xs H Q => ∃ x T, xs = [x, .ty "int"] ∧ tyn H x = some T ∧ Q (.bl (T == "int" || T == "bool")) H) (tCons te (tCons (tC (.ty "int")) tNil))) :=
  pe_callB call_isInt hg N.isin boot_isinstance (pa_cons he (pa_cons (pe_bltn hg2 N.tint boot_int rfl) pa_nil) hs1) (he := hs1) (hpl := hpl)
theorem pe_isBool {X : Cx} {e : Expr} {te : TE} {p p2 pos : Pos} (N : Nm X.mg) (he : PE X e te) (hg : Gl X "isinstance" := by rfl) (hg2 : Gl X "bool" := by rfl)
    (hs1 : starEach [e, .Name "bool" p2] X.env = (false, eval e X.env) :: starEach [.Name "bool" p2] X.env := by rfl) (hpl : (backTo pos (starEach [.Name "bool" p2] X.env)).any (·.1) = false := by rfl) :
    PE X (.Call (.Name "isinstance" p) [e, .Name "bool" p2] [] pos) (tCB (fun xs H Q => ∃ x T, xs = [x, .ty "bool"] ∧ tyn H x = some T ∧ Q (.bl (T == "bool")) H) (tCons te (tCons (tC (.ty "bool")) tNil))) :=
  pe_callB call_isBool hg N.isin boot_isinstance (pa_cons he (pa_cons (pe_bltn hg2 N.tbool boot_bool rfl) pa_nil) hs1) (he := hs1) (hpl := hpl)

/-! ### 3. promises -/
def spWhole : Sp := fun vs H Q _ => ∃ v, vs = [v] ∧ Kn H v ∧ Q (.bl (isI v)) H
end HN

/-! tables, as data. -/
namespace HN
open PySem L2 PyProof.Rows
/-- a span as data -/
structure Sn where
  s : Int
  g : Int
  l : Int
  o : Int
  w : Int
abbrev Sn.row (x : Sn) : List Int := [x.s, x.g, x.l, x.o, x.w]
abbrev netP (b m : Int) (sp : List Sn) : Dt := .tup [.int b, .int m, .tup (sp.map fun x => .tup (x.row.map Dt.int))]
theorem netP_of {H : Hp} {v : V} {b m : Int} {sp : List Sn} (h : IsD H v (netP b m sp)) : ∃ t p ys, v = .ref t ∧ H t = some (.tup [.int b, .int m, .ref p]) ∧ H p = some (.tup ys) ∧ ys.length = sp.length ∧ ∀ (i : Nat) (x : Sn), sp[i]? = some x → ∃ q, ys[i]? = some (.ref q) ∧ H q = some (.tup [.int x.s, .int x.g, .int x.l, .int x.o, .int x.w]) := by
  obtain ⟨t, xs, rfl, ht, rx⟩ := h.tup_of
  cases rx with
  | cons h0 r0 =>
    cases r0 with
    | cons h1 r1 =>
      cases r1 with
      | cons h2 r2 =>
        cases r2
        cases h0
        cases h1
        obtain ⟨p, ys, rfl, hp, ry⟩ := h2.tup_of
        refine ⟨t, p, ys, rfl, ht, hp, by rw [ry.length, List.length_map], fun i x hx => ?_⟩
        obtain ⟨y, hy, dy⟩ := ry.at (i := i) (d := .tup (x.row.map Dt.int)) (by rw [List.getElem?_map, hx]; rfl)
        obtain ⟨q, zs, rfl, hq, rz⟩ := dy.tup_of
        have ez := rz.ints_of
        subst ez
        exact ⟨q, hy, hq⟩
def tm (ts : List Int) (i : Int) : Int := ts.getD i.toNat 0
theorem tm_at {ts : List Int} {i : Int} (h0 : 0 ≤ i) (h1 : i < ts.length) : atI (ts.map V.int) i = some (.int (tm ts i)) := by
  obtain ⟨j, rfl⟩ := Int.eq_ofNat_of_zero_le h0
  refine atI_nat ?_
  rw [List.getElem?_map, List.getElem?_eq_getElem (by omega)]
  unfold tm
  rw [Int.toNat_natCast, List.getD_eq_getElem?_getD, List.getElem?_eq_getElem (by omega)]
  rfl
/-- beat, times and spans belong together -/
structure Rdy (b : Int) (ts : List Int) (sp : List Sn) : Prop where
  b1 : 0 < b
  few : sp.length ≤ 1000
  ends : ∀ x ∈ sp, 0 ≤ x.s ∧ x.s < ts.length ∧ 0 ≤ x.g ∧ x.g < ts.length
def waitM (b : Int) (ts : List Int) (x : Sn) : Int := (tm ts x.g - tm ts x.s - x.l) % b
def waitsM (b : Int) (ts : List Int) (sp : List Sn) : List Int := sp.map (waitM b ts)
def brk (b : Int) (ts : List Int) (x : Sn) : Bool := decide (x.o - x.l < waitM b ts x)
def movedL (b k : Int) (ns : List Int) : List Int := ns.map fun n => (n + k) % b
theorem small_le {n : Nat} (h : n ≤ 1000) : n ≤ sizeLine := Nat.le_trans h (by decide)
structure Nt (mg : Str → Option Value) : Prop where
  range : mg "range" = none
  enum : mg "enumerate" = none
  zip : mg "zip" = none
  sum : mg "sum" = none
  tlist : mg "list" = none
  max : mg "max" = none
/-- a drawn span, a drawn net -/
structure SnOk (b m : Int) (x : Sn) : Prop where
  s0 : 0 ≤ x.s
  s1 : x.s < m
  g0 : 0 ≤ x.g
  g1 : x.g < m
  ne : x.s ≠ x.g
  l0 : 0 ≤ x.l
  lo : x.l ≤ x.o
  ob : x.o < x.l + b
  o60 : x.o < 10 ^ 60
  w0 : 0 ≤ x.w
  w1 : x.w ≤ 1000000000000
structure NetT (b m : Int) (sp : List Sn) : Prop where
  b1 : 1 ≤ b
  b2 : b ≤ 10 ^ 59
  m1 : 1 ≤ m
  m2 : m ≤ 16
  few : sp.length ≤ 40
  all : ∀ x ∈ sp, SnOk b m x
theorem NetT.rdy {b m : Int} {sp : List Sn} {ts : List Int} (h : NetT b m sp) (ht : (ts.length : Int) = m) : Rdy b ts sp :=
  ⟨by have := h.b1; omega, by have := h.few; omega, fun x hx => by have := h.all x hx; exact ⟨this.s0, by have := this.s1; omega, this.g0, by have := this.g1; omega⟩⟩
theorem NetT.ws {b m : Int} {sp : List Sn} (h : NetT b m sp) : ∀ x ∈ sp, 0 ≤ x.w ∧ x.w ≤ 1000000000000 := fun x hx => ⟨(h.all x hx).w0, (h.all x hx).w1⟩
theorem tm_in {b : Int} {ts : List Int} {i : Int} (h : ∀ i ∈ ts, 0 ≤ i ∧ i < b) (h0 : 0 ≤ i) (h1 : i < ts.length) : 0 ≤ tm ts i ∧ tm ts i < b := by
  have hi : i.toNat < ts.length := by omega
  have e : tm ts i = ts[i.toNat] := by unfold tm; rw [List.getD_eq_getElem?_getD, List.getElem?_eq_getElem hi]; rfl
  rw [e]; exact h _ (List.getElem_mem hi)
/-! ### tables moved -/
theorem Rdy.moved {b k : Int} {ts : List Int} {sp : List Sn} (R : Rdy b ts sp) : Rdy b (movedL b k ts) sp :=
  ⟨R.b1, R.few, fun x hx => by unfold movedL; rw [List.length_map]; exact R.ends x hx⟩
/-! ### promises -/
end HN

/-! drawing out of a box: the promises. -/
namespace HN
open PySem L2 PyProof.Rows
/-- the box at p turns, all else stands -/
def Mb (p : Addr) (H H' : Hp) : Prop := (∀ b o, b ≠ p → H b = some o → H' b = some o) ∧ ∃ x y, H' p = some (.lst [.int x, .int y])
theorem Mb.refl {p : Addr} {H : Hp} {x y : Int} (h : H p = some (.lst [.int x, .int y])) : Mb p H H := ⟨fun _ _ _ e => e, x, y, h⟩
theorem Mb.trans {p : Addr} {H H1 H2 : Hp} (a : Mb p H H1) (b : Mb p H1 H2) : Mb p H H2 := ⟨fun c o hc e => b.1 c o hc (a.1 c o hc e), b.2⟩
theorem Mb.then {p : Addr} {H H1 H2 : Hp} (a : Mb p H H1) (e : Same H1 H2) : Mb p H H2 := ⟨fun c o hc q => e _ _ (a.1 c o hc q), let ⟨x, y, h⟩ := a.2; ⟨x, y, e _ _ h⟩⟩
theorem Mb.at {p q : Addr} {H H1 : Hp} {o : HO} (a : Mb p H H1) (h : H q = some o) (hne : q ≠ p) : H1 q = some o := a.1 q o hne h
theorem Same.mb {p : Addr} {H H1 H2 : Hp} (e : Same H H1) (hp : H p = none) (m : Mb p H1 H2) : Same H H2 := fun b o q => m.1 b o (fun z => by rw [z, hp] at q; cases q) (e b o q)
theorem atI_in {α : Type} {xs : List α} {r : Int} (h0 : 0 ≤ r) (h1 : r < xs.length) : ∃ v, atI xs r = some v ∧ v ∈ xs := by
  obtain ⟨j, rfl⟩ := Int.eq_ofNat_of_zero_le h0
  have hj : j < xs.length := by omega
  exact ⟨xs[j], atI_nat (List.getElem?_eq_getElem hj), List.getElem_mem hj⟩
theorem log_ok {m : Int} (h0 : 0 < m) (h : m < 10 ^ 61) : 0 < m ∧ m.natAbs.log2 < 9000 := by
  refine ⟨h0, ?_⟩
  have h1 : m.natAbs < 2 ^ 300 := by
    have : (10 : Nat) ^ 61 < 2 ^ 300 := by decide +kernel
    have h2 : m.natAbs < 10 ^ 61 := by omega
    exact Nat.lt_trans h2 this
  have h3 : m.natAbs ≠ 0 := by omega
  have := (Nat.log2_lt h3).mpr h1
  omega
theorem goal_ok {s t m : Int} (h0 : 0 ≤ s) (h1 : s < m) (h2 : 0 ≤ t) (h3 : t < m - 1) : 0 ≤ (s + 1 + t) % m ∧ (s + 1 + t) % m < m ∧ s ≠ (s + 1 + t) % m := by
  have hm : 0 < m := by omega
  have a := Int.emod_nonneg (s + 1 + t) (by omega : m ≠ 0)
  have b := Int.emod_lt_of_pos (s + 1 + t) hm
  refine ⟨a, b, ?_⟩
  by_cases q : s + 1 + t < m
  · rw [Int.emod_eq_of_lt (by omega) q]; omega
  · have e : (s + 1 + t) % m = (s + 1 + t - m) % m := (Int.sub_emod_right _ _).symm
    rw [e, Int.emod_eq_of_lt (by omega) (by omega)]; omega
end HN

/-! ways and rings, as data. -/
namespace HN
open PySem L2 PyProof.Rows
/-- a tuple of tuples of whole numbers -/
abbrev rowsP {α : Type} (f : α → List Int) (xs : List α) : Dt := .tup (xs.map fun x => .tup ((f x).map Dt.int))
/-- a step: a span's number, and which way -/
structure Stp where
  i : Nat
  d : Int
abbrev Stp.row (s : Stp) : List Int := [(s.i : Int), s.d]
abbrev wayP (ws : List Stp) : Dt := rowsP Stp.row ws
def frm (x : Sn) (d : Int) : Int := if d = 1 then x.s else x.g
def too (x : Sn) (d : Int) : Int := if d = 1 then x.g else x.s
def WayIn (n : Nat) (ws : List Stp) : Prop := ∀ s ∈ ws, s.i < n ∧ (s.d = 1 ∨ s.d = -1)
def frmS (sp : List Sn) (s : Stp) : Int := match sp[s.i]? with | some x => frm x s.d | none => 0
def tooS (sp : List Sn) (s : Stp) : Int := match sp[s.i]? with | some x => too x s.d | none => 0
theorem atI_last {α : Type} {xs : List α} {x : α} (h : xs[xs.length - 1]? = some x) : atI xs (-1) = some x := by
  have hl : xs.length - 1 < xs.length := (List.getElem?_eq_some_iff.mp h).1
  unfold atI ixN
  rw [if_neg (by decide), if_pos (by omega)]
  show xs[(-1 + (xs.length : Int)).toNat]? = some x
  rw [show (-1 + (xs.length : Int)).toNat = xs.length - 1 by omega]
  exact h
end HN

/-! walking: the promises. -/
namespace HN
open PySem L2 PyProof.Rows
/-- a value that is a step, a value that is a pair -/
def StepV (n : Nat) (H : Hp) (v : V) : Prop := ∃ (q : Addr) (s : Stp), v = .ref q ∧ H q = some (.tup (s.row.map V.int)) ∧ s.i < n ∧ (s.d = 1 ∨ s.d = -1)
def PairV (H : Hp) (v : V) : Prop := ∃ (q : Addr) (a b : Int), v = .ref q ∧ H q = some (.tup [.int a, .int b])
theorem StepV.same {n : Nat} {H H' : Hp} {v : V} (e : Same H H') (h : StepV n H v) : StepV n H' v := let ⟨q, s, a, b, c⟩ := h; ⟨q, s, a, e _ _ b, c⟩
theorem PairV.same {H H' : Hp} {v : V} (e : Same H H') (h : PairV H v) : PairV H' v := let ⟨q, s, t, a, b⟩ := h; ⟨q, s, t, a, e _ _ b⟩
/-- but for what is a list -/
theorem StepV.but {n : Nat} {H H' : Hp} {v : V} {p : Addr} {xs : List V} (hp : H p = some (.lst xs)) (e : ∀ b o, b ≠ p → H b = some o → H' b = some o) (h : StepV n H v) : StepV n H' v := by
  obtain ⟨q, s, a, b, c⟩ := h
  exact ⟨q, s, a, e _ _ (ne_of b hp (by intro z; cases z)) b, c⟩
theorem PairV.but {H H' : Hp} {v : V} {p : Addr} {xs : List V} (hp : H p = some (.lst xs)) (e : ∀ b o, b ≠ p → H b = some o → H' b = some o) (h : PairV H v) : PairV H' v := by
  obtain ⟨q, s, t, a, b⟩ := h
  exact ⟨q, s, t, a, e _ _ (ne_of b hp (by intro z; cases z)) b⟩
def spWholeL : Sp := fun vs H Q _ => ∃ i, vs = [.int i] ∧ Q (.bl true) H
end HN

/-! ways gone back. -/
namespace HN
open PySem L2 PyProof.Rows
abbrev rowsD {α : Type} (f : α → List Int) (xs : List α) : List Dt := xs.map fun x => .tup ((f x).map Dt.int)
theorem pls_rows {α : Type} (f : α → List Int) : ∀ xs : List α, pls (rowsD f xs) = true
  | [] => by unfold pls; rfl
  | x :: xs => by unfold rowsD; rw [List.map_cons]; unfold pls; rw [show pls (xs.map fun x => Dt.tup ((f x).map Dt.int)) = true from pls_rows f xs]; unfold pl; rw [pls_ints]; rfl
theorem deps_rows {α : Type} (f : α → List Int) : ∀ xs : List α, deps (rowsD f xs) ≤ 1
  | [] => by unfold deps; exact Nat.zero_le _
  | x :: xs => by unfold rowsD; rw [List.map_cons]; unfold deps; have := deps_rows f xs; unfold rowsD at this; unfold dep; rw [deps_ints]; omega
end HN

/-! what is a way, what is a ring: of any data. -/
namespace HN
open PySem L2 PyProof.Rows
structure N3 (mg : Str → Option Value) : Prop where
  tset : mg "set" = none
def stepD (n : Nat) : Dt → Option Stp
  | .tup [.int i, .int k] => if 0 ≤ i ∧ i ≤ (n : Int) - 1 ∧ (k = 1 ∨ k = -1) then some ⟨i.toNat, k⟩ else none
  | _ => none
def stepB (n : Nat) (d : Dt) : Bool := (stepD n d).isSome
theorem stepD_row {n : Nat} {s : Stp} (h : s.i < n ∧ (s.d = 1 ∨ s.d = -1)) : stepD n (.tup (s.row.map Dt.int)) = some s := by
  show (if 0 ≤ (s.i : Int) ∧ (s.i : Int) ≤ (n : Int) - 1 ∧ (s.d = 1 ∨ s.d = -1) then some (⟨((s.i : Nat) : Int).toNat, s.d⟩ : Stp) else none) = some s
  rw [if_pos ⟨by omega, by omega, h.2⟩, Int.toNat_natCast]
theorem rows_steps {n : Nat} : ∀ (ss : List Stp), WayIn n ss → (rowsD Stp.row ss).filterMap (stepD n) = ss ∧ (rowsD Stp.row ss).all (stepB n) = true
  | [], _ => ⟨rfl, rfl⟩
  | s :: ss, h => by
    obtain ⟨h1, h2⟩ := rows_steps ss fun t ht => h t (List.mem_cons_of_mem _ ht)
    have e := stepD_row (h s (by simp))
    unfold rowsD at h1 h2 ⊢
    rw [List.map_cons, List.filterMap_cons, e, List.all_cons]
    refine ⟨by rw [h1], ?_⟩
    rw [h2]
    unfold stepB
    rw [e]; rfl
def zipB (sp : List Sn) (ss : List Stp) : Bool := (ss.zip ss.tail).all fun p => decide (tooS sp p.1 = frmS sp p.2)
def wayB (sp : List Sn) (d : Dt) : Bool := match d with
  | .tup ds => !ds.isEmpty && (ds.all (stepB sp.length) && zipB sp (ds.filterMap (stepD sp.length)))
  | _ => false
def fstB (sp : List Sn) (ss : List Stp) : Int := match ss[0]? with | some s => frmS sp s | none => 0
def lstB (sp : List Sn) (ss : List Stp) : Int := match ss[ss.length - 1]? with | some s => tooS sp s | none => 0
def numsS (ss : List Stp) : List Int := ss.map fun s => (s.i : Int)
def ringOf (sp : List Sn) (ss : List Stp) : Bool := decide (2 ≤ ss.length) && (decide ((metL (numsS ss)).length = ss.length) && decide (fstB sp ss = lstB sp ss))
def ringB (sp : List Sn) (d : Dt) : Bool := match d with
  | .tup ds => wayB sp (.tup ds) && ringOf sp (ds.filterMap (stepD sp.length))
  | _ => false
/-! ### promises -/
end HN

/-! beats of rings: the promises. -/
namespace HN
open PySem L2 PyProof.Rows
/-- all tuples stand -/
def TupK (H H' : Hp) : Prop := ∀ q xs, H q = some (.tup xs) → H' q = some (.tup xs)
theorem TupK.refl (H : Hp) : TupK H H := fun _ _ h => h
theorem TupK.trans {H H1 H2 : Hp} (a : TupK H H1) (b : TupK H1 H2) : TupK H H2 := fun q xs h => b q xs (a q xs h)
theorem Same.tupK {H H' : Hp} (e : Same H H') : TupK H H' := fun _ _ h => e _ _ h
theorem Mb.tupK {p : Addr} {H H' : Hp} {xs : List V} (hp : H p = some (.lst xs)) (M : Mb p H H') : TupK H H' := fun q ys h => M.1 q _ (ne_of h hp (by intro z; cases z)) h
theorem tupK_upd {H : Hp} {p : Addr} {xs : List V} {o : HO} (hp : H p = some (.lst xs)) : TupK H (upd H p o) := fun q ys h => by rw [upd_ne (ne_of h hp (by intro z; cases z))]; exact h
theorem rows_keep {α : Type} {f : α → List Int} {H H' : Hp} (e : TupK H H') : ∀ {xs : List α} {zs : List V}, IsDs H zs (rowsD f xs) → IsDs H' zs (rowsD f xs)
  | [], _, h => by cases h; exact .nil
  | x :: xs, zs, h => by
    unfold rowsD at h ⊢
    rw [List.map_cons] at h ⊢
    cases h with
    | cons h1 h2 =>
      obtain ⟨q, ws, rfl, hq, rw'⟩ := h1.tup_of
      have e2 := rw'.ints_of
      subst e2
      exact .cons (.tup (e q _ hq) (IsDs.ints _)) (rows_keep e h2)
def PairW (H : Hp) (v : V) : Prop := ∃ (q : Addr) (a b : Int), v = .ref q ∧ H q = some (.tup [.int a, .int b]) ∧ 0 ≤ a ∧ a ≤ b ∧ b < 10 ^ 60
theorem PairW.keep {H H' : Hp} {v : V} (e : TupK H H') (h : PairW H v) : PairW H' v := let ⟨q, s, t, a, b, c⟩ := h; ⟨q, s, t, a, e _ _ b, c⟩
theorem PairW.same {H H' : Hp} {v : V} (e : Same H H') (h : PairW H v) : PairW H' v := h.keep (Same.tupK e)
theorem PairW.but {H H' : Hp} {v : V} {p : Addr} {xs : List V} (hp : H p = some (.lst xs)) (e : ∀ b o, b ≠ p → H b = some o → H' b = some o) (h : PairW H v) : PairW H' v := by
  obtain ⟨q, s, t, a, b, c⟩ := h
  exact ⟨q, s, t, a, e _ _ (ne_of b hp (by intro z; cases z)) b, c⟩
/-- a round: its steps lead through the happenings hs -/
def Rounds (hs : List Int) (n : Nat) (sp : List Sn) (ws : List Stp) : Prop := ∀ i, i < n → ∃ d x, ws[i]? = some ⟨i, d⟩ ∧ sp[i]? = some x ∧ (d = 1 ∨ d = -1) ∧ some (frm x d) = hs[i]? ∧ some (too x d) = hs[(i + 1) % hs.length]?
theorem Rounds.more {hs : List Int} {n : Nat} {sp : List Sn} {ws : List Stp} (h : Rounds hs n sp ws) (x : List Sn) (y : List Stp) : Rounds hs n (sp ++ x) (ws ++ y) := fun i hi => by
  obtain ⟨d, z, h1, h2, h3⟩ := h i hi
  have a1 := (List.getElem?_eq_some_iff.mp h1).1
  have a2 := (List.getElem?_eq_some_iff.mp h2).1
  exact ⟨d, z, by rw [List.getElem?_append_left a1]; exact h1, by rw [List.getElem?_append_left a2]; exact h2, h3⟩
theorem Rounds.inn {hs : List Int} {sp : List Sn} {ws : List Stp} (h : Rounds hs ws.length sp ws) : WayIn sp.length ws := fun s hs' => by
  obtain ⟨i, hi, e⟩ := List.mem_iff_getElem.mp hs'
  obtain ⟨d, x, h1, h2, h3, _⟩ := h i hi
  rw [List.getElem?_eq_getElem hi] at h1
  cases h1.symm.trans (congrArg some e)
  exact ⟨(List.getElem?_eq_some_iff.mp h2).1, h3⟩
theorem Rounds.at {hs : List Int} {n : Nat} {sp : List Sn} {ws : List Stp} (h : Rounds hs n sp ws) {i : Nat} (hi : i < n) : ∃ s, ws[i]? = some s ∧ s.i = i ∧ some (frmS sp s) = hs[i]? ∧ some (tooS sp s) = hs[(i + 1) % hs.length]? := by
  obtain ⟨d, x, h1, h2, h3, h4, h5⟩ := h i hi
  refine ⟨⟨i, d⟩, h1, rfl, ?_, ?_⟩
  · unfold frmS; rw [h2]; exact h4
  · unfold tooS; rw [h2]; exact h5
theorem met_range : ∀ n, n ≤ 8 → (metL ((List.range n).map Int.ofNat)).length = n := by decide +kernel
theorem Rounds.ring {hs : List Int} {sp : List Sn} {ws : List Stp} (h : Rounds hs ws.length sp ws) (hl : hs.length = ws.length) (h2 : 2 ≤ ws.length) (h8 : ws.length ≤ 8) : ringB sp (wayP ws) = true := by
  have hin := h.inn
  obtain ⟨r1, r2⟩ := rows_steps ws hin
  show (wayB sp (.tup (rowsD Stp.row ws)) && ringOf sp ((rowsD Stp.row ws).filterMap (stepD sp.length))) = true
  rw [r1]
  show ((!(rowsD Stp.row ws).isEmpty && ((rowsD Stp.row ws).all (stepB sp.length) && zipB sp ((rowsD Stp.row ws).filterMap (stepD sp.length)))) && ringOf sp ws) = true
  rw [r1, r2]
  have e0 : (rowsD Stp.row ws).isEmpty = false := by
    cases ws with
    | nil => exact absurd h2 (by simp)
    | cons _ _ => rfl
  have e1 : zipB sp ws = true := by
    unfold zipB
    refine List.all_eq_true.mpr fun p hp => ?_
    obtain ⟨j, hj, e⟩ := List.mem_iff_getElem.mp hp
    have hj2 : j + 1 < ws.length := by rw [List.length_zip, List.length_tail] at hj; omega
    rw [List.getElem_zip, List.getElem_tail] at e
    obtain ⟨s, a1, _, _, a4⟩ := h.at (i := j) (by omega)
    obtain ⟨t, b1, _, b3, _⟩ := h.at (i := j + 1) hj2
    rw [List.getElem?_eq_getElem (by omega)] at a1
    rw [List.getElem?_eq_getElem hj2] at b1
    have a1 := Option.some.inj a1
    have b1 := Option.some.inj b1
    rw [← e, a1, b1]
    refine decide_eq_true ?_
    show tooS sp s = frmS sp t
    rw [Nat.mod_eq_of_lt (by omega), ← b3] at a4
    exact Option.some.inj a4
  have e2 : numsS ws = (List.range ws.length).map Int.ofNat := by
    refine List.ext_getElem? fun i => ?_
    unfold numsS
    rw [List.getElem?_map, List.getElem?_map]
    by_cases hi : i < ws.length
    · obtain ⟨s, a1, a2, _⟩ := h.at hi
      rw [a1, List.getElem?_range hi]
      show some ((s.i : Nat) : Int) = some (Int.ofNat i)
      rw [Int.ofNat_eq_natCast]
      rw [a2]
    · rw [List.getElem?_eq_none (by omega), List.getElem?_eq_none (by rw [List.length_range]; omega)]; rfl
  have e3 : ringOf sp ws = true := by
    unfold ringOf
    rw [e2, met_range _ h8, decide_eq_true rfl, decide_eq_true h2]
    refine decide_eq_true ?_
    obtain ⟨s, a1, _, a3, _⟩ := h.at (i := 0) (by omega)
    obtain ⟨t, b1, _, _, b4⟩ := h.at (i := ws.length - 1) (by omega)
    unfold fstB lstB
    rw [a1, b1]
    show frmS sp s = tooS sp t
    rw [show ws.length - 1 + 1 = ws.length by omega, hl, Nat.mod_self, ← a3] at b4
    exact (Option.some.inj b4).symm
  rw [e0, e1, e3]; rfl
end HN

/-! drawing off a deck: the promises. -/
namespace HN
open PySem L2 PyProof.Rows
/-- the deck at p: a list of whole numbers, never empty -/
def Dk (p : Addr) (H : Hp) : Prop := ∃ (k : Int) (ns : List Int), H p = some (.lst ((k :: ns).map V.int)) ∧ ns.length ≤ 1000
/-- the deck at p is drawn from, all else stands -/
def Md (p : Addr) (H H' : Hp) : Prop := (∀ b o, b ≠ p → H b = some o → H' b = some o) ∧ Dk p H'
theorem Md.refl {p : Addr} {H : Hp} (h : Dk p H) : Md p H H := ⟨fun _ _ _ e => e, h⟩
theorem Md.trans {p : Addr} {H H1 H2 : Hp} (a : Md p H H1) (b : Md p H1 H2) : Md p H H2 := ⟨fun c o hc e => b.1 c o hc (a.1 c o hc e), b.2⟩
theorem Dk.same {p : Addr} {H H1 : Hp} (h : Dk p H) (e : Same H H1) : Dk p H1 := let ⟨k, ns, a, b⟩ := h; ⟨k, ns, e _ _ a, b⟩
theorem Md.then {p : Addr} {H H1 H2 : Hp} (a : Md p H H1) (e : Same H1 H2) : Md p H H2 := ⟨fun c o hc q => e _ _ (a.1 c o hc q), a.2.same e⟩
theorem Md.at {p q : Addr} {H H1 : Hp} {o : HO} (a : Md p H H1) (h : H q = some o) (hne : q ≠ p) : H1 q = some o := a.1 q o hne h
theorem Md.tupK {p : Addr} {H H' : Hp} (hp : Dk p H) (M : Md p H H') : TupK H H' := fun q ys h => by
  obtain ⟨k, ns, e, _⟩ := hp
  exact M.1 q _ (ne_of h e (by intro z; cases z)) h
theorem Dk.ne {p q : Addr} {H : Hp} (h : Dk p H) (hq : H q = none) : q ≠ p := fun z => by obtain ⟨k, ns, e, _⟩ := h; rw [z, e] at hq; cases hq
def spDrawD : Sp := fun vs H Q _ => ∃ (p : Addr) (m : Int), vs = [.ref p, .int m] ∧ Dk p H ∧ 0 < m ∧ m < 10 ^ 61 ∧ ∀ r H', 0 ≤ r → r < m → Md p H H' → Q (.int r) H'
def spSpanD : Sp := fun vs H Q _ => ∃ (p h : Addr) (b m : Int) (hs : List Int) (k : Bool), vs = [.ref p, .int b, .int m, .ref h, .bl k] ∧ Dk p H ∧ 1 ≤ b ∧ b ≤ 10 ^ 33 ∧ 2 ≤ m ∧ m ≤ 16 ∧ H h = some (.tup (hs.map V.int)) ∧ (hs.length : Int) = m ∧
  ∀ t (z : Sn) H', Md p H H' → H' t = some (.tup (z.row.map V.int)) → SnOk b m z → Q (.ref t) H'
def spNetD : Sp := fun vs H Q _ => ∃ (p : Addr) (a c s g : Int), vs = [.ref p, .int a, .int c, .int s, .int g] ∧ Dk p H ∧ 1 ≤ a ∧ a ≤ 16 ∧ 1 ≤ c ∧ c ≤ 100 ∧ 0 ≤ s ∧ s ≤ 40 ∧ 1 ≤ g ∧ g ≤ 10 ^ 30 ∧
  ∀ (t : Addr) (v : V) (h : Addr) (b m : Int) (sp : List Sn) (hs : List Int) (H' : Hp), Md p H H' → H' t = some (.tup [v, .ref h]) → IsD H' v (netP b m sp) → NetT b m sp → b ≤ 10 ^ 33 → H' h = some (.tup (hs.map V.int)) → (hs.length : Int) = m → (∀ x ∈ hs, 0 ≤ x ∧ x < b) → Q (.ref t) H'
end HN

/-! sorting: what the tree of comparisons comes to, where an order answers. -/
namespace L2
open PySem PySem.W PyProof.Rows
/-- the tree walked by an order's answers; all that is asked lies below n -/
def Gd {α : Type} (lt : Nat → Nat → Bool) (n : Nat) : KasT α → (α → Prop) → Prop
  | .ret a, P => P a
  | .ask i j k, P => i < n ∧ j < n ∧ Gd lt n (k (lt i j)) P
theorem Gd.mono {α : Type} {lt : Nat → Nat → Bool} {n : Nat} {P R : α → Prop} (h : ∀ a, P a → R a) : ∀ {t : KasT α}, Gd lt n t P → Gd lt n t R
  | .ret a, g => h a g
  | .ask _ _ _, g => ⟨g.1, g.2.1, Gd.mono h g.2.2⟩
theorem Gd.bind {α β : Type} {lt : Nat → Nat → Bool} {n : Nat} {f : α → KasT β} {P : β → Prop} : ∀ {t : KasT α}, Gd lt n t (fun a => Gd lt n (f a) P) → Gd lt n (t.bind f) P
  | .ret _, g => g
  | .ask _ _ _, g => ⟨g.1, g.2.1, Gd.bind g.2.2⟩
structure Ord (lt : Nat → Nat → Bool) (n : Nat) : Prop where
  tot : ∀ i j, i < n → j < n → i ≠ j → lt i j = false → lt j i = true
  tr : ∀ i j k, lt i j = true → lt j k = true → lt i k = true
abbrev gA (p : Array Nat) (i : Nat) : Nat := p.getD i 0
abbrev Pm (n : Nat) (p : Array Nat) : Prop := p.toList.Perm (List.range n)
theorem gA_get {p : Array Nat} {i : Nat} : gA p i = p[i]?.getD 0 := by
  show p.getD i 0 = _
  rw [Array.getD_eq_getD_getElem?]
theorem Pm.size {n : Nat} {p : Array Nat} (h : Pm n p) : p.size = n := by
  have := h.length_eq
  rw [List.length_range, Array.length_toList] at this
  exact this
theorem Pm.lt {n : Nat} {p : Array Nat} (h : Pm n p) {i : Nat} (hi : i < n) : gA p i < n := by
  have hs : i < p.size := by rw [h.size]; exact hi
  have e : gA p i = p[i] := by rw [gA_get, Array.getElem?_eq_getElem hs]; rfl
  rw [e]
  have : p[i] ∈ p.toList := by simp
  exact List.mem_range.mp (h.mem_iff.mp this)
theorem Pm.ne {n : Nat} {p : Array Nat} (h : Pm n p) {i j : Nat} (hij : i < j) (hj : j < n) : gA p i ≠ gA p j := by
  have hd : p.toList.Nodup := h.nodup_iff.mpr List.nodup_range
  have si : i < p.toList.length := by rw [Array.length_toList, h.size]; omega
  have sj : j < p.toList.length := by rw [Array.length_toList, h.size]; omega
  have ei : gA p i = p.toList[i] := by rw [gA_get, Array.getElem?_eq_getElem (by rw [h.size]; omega)]; simp
  have ej : gA p j = p.toList[j] := by rw [gA_get, Array.getElem?_eq_getElem (by rw [h.size]; omega)]; simp
  rw [ei, ej]
  exact List.pairwise_iff_getElem.mp (List.nodup_iff_pairwise_ne.mp hd) i j si sj hij
theorem Pm.of {n : Nat} {p q : Array Nat} (h : Pm n p) (e : q.Perm p) : Pm n q := (Array.perm_iff_toList_perm.mp e).trans h
def SoA (lt : Nat → Nat → Bool) (p : Array Nat) (m : Nat) : Prop := ∀ i j, i < j → j < m → lt (gA p i) (gA p j) = true
def DeA (lt : Nat → Nat → Bool) (p : Array Nat) (m : Nat) : Prop := ∀ i j, i < j → j < m → lt (gA p j) (gA p i) = true
section
variable {lt : Nat → Nat → Bool} {n : Nat}
theorem SoA.more {p : Array Nat} {m : Nat} (O : Ord lt n) (h : SoA lt p m) (h1 : lt (gA p (m - 1)) (gA p m) = true) : SoA lt p (m + 1) := fun i j hij hj => by
  by_cases e : j < m
  · exact h i j hij e
  · have ej : j = m := by omega
    rw [ej]
    by_cases ei : i = m - 1
    · rw [ei]; exact h1
    · exact O.tr _ _ _ (h i (m - 1) (by omega) (by omega)) h1
theorem DeA.more {p : Array Nat} {m : Nat} (O : Ord lt n) (h : DeA lt p m) (h1 : lt (gA p m) (gA p (m - 1)) = true) : DeA lt p (m + 1) := fun i j hij hj => by
  by_cases e : j < m
  · exact h i j hij e
  · have ej : j = m := by omega
    rw [ej]
    by_cases ei : i = m - 1
    · rw [ei]; exact h1
    · exact O.tr _ _ _ h1 (h i (m - 1) (by omega) (by omega))
end
end L2

/-! sorted of a list of whole numbers. -/
namespace L2
open PySem PySem.W PyProof.Rows
theorem sortedHeap_keep {h : Heap} {a : Addr} {vs : List Value} {out : Array Value} {b : Addr} {u : Obj} (hb : b ≠ a) (e : h.get? b = some u) : (sortedHeap h a vs out).get? b = some u := by
  unfold sortedHeap
  rw [Heap.get?_update_ne _ _ _ _ hb]
  exact Heap.get?_push_of_some _ (Heap.get?_push_of_some _ (by rw [Heap.get?_update_ne _ _ _ _ hb]; exact e))
theorem sortedHeap_at {h : Heap} {a : Addr} {vs : List Value} {out : Array Value} {n : Nat} (e : h.get? a = some (seqObj "list" vs.toArray n)) : ∃ c, (sortedHeap h a vs out).get? a = some (seqObj "list" out c) := by
  unfold sortedHeap
  exact ⟨_, get?_update_seq (Heap.get?_push_of_some _ (Heap.get?_push_of_some _ (get?_update_seq e fun _ => #[]))) fun _ => out⟩
section
variable {X : Cx}
end
end L2

/-! what a range holds, collected. -/
namespace L2
open PySem PySem.W PyProof.Rows
section
variable {prog : Program} {w : World} {A : Around} {E : Value → Shared → Prop} {s : Shared}
theorem collect_range {r : Addr} {a b c : Int} {t u v : Tok} {n : Nat} {Q : List Value → Shared → Prop} (hh : A.handled = none) (hr : IsRange s.heap r a b c t u v) (hsmall : Builtin.Range.small a b c = true) (hn : Builtin.Range.rangeSize a b c = n) (hlen : n ≤ 2 ^ 24)
    (h : ∀ h' tk acc, (∀ b o, s.heap.get? b = some o → h'.get? b = some o) → s.heap.objs.size < h'.objs.size → ItemsOf (fun i v => ∃ t, v = .int (a + i * c) t) acc n → Q acc.toList { s with heap := h', toks := tk }) :
    wpAny (model prog w) A (collect (.ref r)) Q E s := by
  unfold collect
  refine wpAny_bind (wpAny_runValue (codeAny_builtin entry_proto_collect' ?_))
  show wpAny _ _ (do again (.builtin "list.__iadd__" ⟨[← newList [], .ref r], []⟩)) _ _ s
  refine wpAny_bind (wpAny_newList (wpAny_pure ⟨Code.quiet_builtin _ (by decide +kernel), codeAny_builtin entry_list_iadd' ?_⟩))
  have key := wpAny_extend_range (prog := prog) (w := w) (A := A) (s := { s with heap := s.heap.push (seqObj "list" #[] 0) }) (R := fun r s' => match r with
      | .ok (.ret v) => wpAny (model prog w) A (match v with
        | .ref a => do
          let o ← load a
          match o.data with
          | .seq xs _ => pure xs.toList
          | _ => unsupported "internal:collect"
        | _ => unsupported "internal:collect") Q E s'
      | .ok _ => False
      | .error e => E e s') hh (Heap.get?_push_of_some _ hr) hsmall hn hlen s.heap.objs.size (.ref s.heap.objs.size) 0 (Heap.get?_push_size _ rfl) (fun h' tk acc c' hk hS hacc => by
    show wpAny (model prog w) A (do
        let o ← load s.heap.objs.size
        match o.data with
        | .seq xs _ => pure xs.toList
        | _ => unsupported "internal:collect") Q E { s with heap := h', toks := tk }
    refine wpAny_bind (wpAny_load hS ?_)
    exact wpAny_pure (h h' tk acc (fun b o e => hk b o (Nat.ne_of_lt (Heap.lt_size e)) (Heap.get?_push_of_some _ e)) (Heap.lt_size hS) hacc))
  exact key
end
end L2

/-! comprehensions with five names, over a tuple of tuples of five. -/
namespace L2
open PySem PySem.Spec PyProof.Rows
end L2

/-! a tuple's index of a whole number. -/
namespace L2
open PySem PySem.Spec PyProof.Rows
open AutoSeq1 (wpAny_loadPart')
theorem tuple_index_meets (p : Addr) (items : Array Value) (x : Value) (e : Value → Bool) (he : ∀ y, y ∈ items → PySem.MeetsSeq.EqGives y x (e y)) (j : Nat) (hj : j < items.size) (hit : e items[j] = true) (hno : ∀ m (hm : m < items.size), m < j → e items[m] = false) :
    Meets (Builtin.«tuple.index» ⟨[.ref p, x], []⟩) (fun _ R s => IsTup s.heap p items ∧ R (.ok (.ret (.int j s.toks))) { s with toks := s.toks + 1 }) :=
  .of_wp fun prog w A R s h => by
    obtain ⟨hp, g, d, tk, os⟩ := s; obtain ⟨⟨o, ho, hc, n, hd⟩, h⟩ := h
    wp_walk using wpAny_loadPart' ho
    rw [hd]
    refine wpAny_pure (wpAny_pure ?_)
    dsimp only
    refine wpAny_bind (wpAny_pure (wpAny_bind (wpAny_pure (wpAny_bind ?_))))
    rw [Nat.min_self, Std.Legacy.Range.forIn_eq_forIn_range']
    refine wpAny_forIn_list _ (fun l b s' => ∃ k, l = List.range' k (items.size - k) ∧ k ≤ j ∧ b = (none, ()) ∧ s' = ⟨hp, g, d, tk, os⟩) _ ?_ ?_ _ _ ?_
    · rintro i rest b s' ⟨k, hl, hk, rfl, rfl⟩
      have hk2 : items.size - k = (items.size - (k + 1)) + 1 := by omega
      rw [hk2, List.range'_succ] at hl
      injection hl with h1 h2
      subst h1
      have hik : i < items.size := by omega
      rw [Array.getElem?_eq_getElem hik]
      refine wpAny_bind (he _ (Array.getElem_mem hik) prog w _ _ _ _ ?_)
      by_cases hij : i = j
      · subst hij
        rw [hit, if_pos rfl]
        wp_walk
        first | exact ⟨_, rfl, h⟩ | exact h
      · rw [hno i hik (by omega), if_neg Bool.false_ne_true]
        exact wpAny_pure ⟨i + 1, h2, by omega, rfl, rfl⟩
    · rintro b s' ⟨k, hl, hk, rfl, rfl⟩
      have hk2 : items.size - k = (items.size - (k + 1)) + 1 := by omega
      rw [hk2, List.range'_succ] at hl
      cases hl
    · refine ⟨0, ?_, Nat.zero_le _, rfl, rfl⟩
      simp [Std.Legacy.Range.size]
section
variable {X : Cx}
def rIndexT (K : PySem.W.Frag) : V → List V → Hp → VK → Prop := fun x vs H Q => ∃ (p : Addr) (ns : List Int) (k : Int) (i : Nat), x = .ref p ∧ vs = [.int k] ∧ SqT K H p (ns.map V.int) ∧ ns[i]? = some k ∧ (∀ j, j < i → ns[j]? ≠ some k) ∧ Q (.int (i : Nat)) H
theorem mt_indexT : MtM X "tuple.index" (rIndexT X.K) := by
  intro pins s σ H x vs v us Q I rx rv h
  obtain ⟨p, ns, k, i, rfl, rfl, hq, hi, hno, q⟩ := h
  cases (show v = Value.ref p from rx)
  obtain ⟨u, rfl, ru⟩ := rv.one
  obtain ⟨t, rfl⟩ := (show ∃ t, u = Value.int k t from ru)
  obtain ⟨its, r, pl, hz⟩ := I.tuple hq
  have hl : its.length = ns.length := by rw [← r.length, List.length_map]
  have hil : i < ns.length := (List.getElem?_eq_some_iff.mp hi).1
  have at_ : ∀ (m : Nat) (hm : m < its.toArray.size), ∃ tk, its.toArray[m] = Value.int (ns[m]'(by rw [← hl]; simpa using hm)) tk := fun m hm => by
    have hm' : m < ns.length := by rw [← hl]; simpa using hm
    obtain ⟨u, hu, ru⟩ := r.get (i := m) (x := V.int ns[m]) (by rw [List.getElem?_map, List.getElem?_eq_getElem hm']; rfl)
    obtain ⟨tk, rfl⟩ := (show ∃ t, u = Value.int ns[m] t from ru)
    exact ⟨tk, by have := (List.getElem?_eq_some_iff.mp hu).2; simpa using this⟩
  have e0 : ∀ (m : Nat) (hm : m < its.toArray.size), (match its.toArray[m] with | .int y _ => y == k | _ => false) = (ns[m]'(by rw [← hl]; simpa using hm) == k) := fun m hm => by
    obtain ⟨tk, e⟩ := at_ m hm
    rw [e]
  have his : i < its.toArray.size := by rw [List.size_toArray, hl]; exact hil
  refine call_meets F.slot_tuple_index ⟨_, pl.choose_spec.1, pl.choose_spec.2.1⟩ F.entry_tuple_index (F.args_tuple_index_2 _ _) (tuple_index_meets p its.toArray (.int k t) (fun v => match v with | .int y _ => y == k | _ => false) (fun y hy => ?_) i his ?_ (fun m hm hmi => ?_)) ⟨pl, ⟨.int (i : Nat), H, I.tok _, ⟨_, rfl⟩, q⟩⟩
  · obtain ⟨m, hm, rfl⟩ := Array.getElem_of_mem hy
    obtain ⟨tk, e⟩ := at_ m hm
    rw [e]
    exact MeetsSeq.EqGives.int _ _ _ _
  · rw [e0 i his, beq_iff_eq]
    exact (List.getElem?_eq_some_iff.mp hi).2
  · rw [e0 m hm, beq_eq_false_iff_ne]
    have hm' : m < ns.length := by rw [← hl]; simpa using hm
    intro z
    exact hno m hmi (by rw [List.getElem?_eq_getElem hm', z])
/-- a method of a tuple that was made here -/
theorem Inv.tupleN {pins : List (Addr × Obj)} {σ : St} {H : Hp} {s : Shared} {a : Addr} {xs : List V} (I : Inv X pins σ H s) (h : H a = some (.tup xs)) : ∃ its : List Value, Vals xs its ∧ IsTupN s.heap a its.toArray := by
  obtain ⟨z, its, r, p⟩ := I.hok a _ h
  exact ⟨its, r, p⟩
def tBMT (r : V → List V → Hp → VK → Prop) (to : TE) (t : TA) : TE := fun σ H Q => to σ H fun x H1 => (∃ p xs, x = .ref p ∧ H1 p = some (.tup xs)) ∧ t σ H1 fun xs H2 => r x xs H2 Q
theorem pe_bmT {o e : Expr} {es : List Expr} {to : TE} {t : TA} {name : Str} {apos cpos : Pos} {id : String} {r : V → List V → Hp → VK → Prop} (slot : Slot "tuple" name id) (hty : typeOf (.builtin id) = pure (.type "method_descriptor")) (hm : MtR X id r) (ho : PE X o to) (ha : PA X (e :: es) t)
    (hbase : attributeBase o name X.env (eval o X.env) = eval o X.env := by rfl)
    (hfew : ((backTo cpos (starEach (e :: es) X.env)).all (fun x => !x.1) && (backToKw cpos (keywordEach [] X.env)).all (fun x => x.1.isSome) && decide ((e :: es).length + ([] : List Keyword).length + (if ([] : List Keyword).isEmpty then 0 else 1) < 30)) = true := by rfl)
    (hline : (apos.endLine == cpos.line) = true := by rfl) (hs : starEach (e :: es) X.env = (false, eval e X.env) :: starEach es X.env := by rfl) (hplain : (backTo cpos (starEach es X.env)).any (·.1) = false := by rfl) :
    PE X (.Call (.Attribute o name apos) (e :: es) [] cpos) (tBMT r to t) := by
  intro pins s σ H Q I h
  refine wpAny_Call_method_late hbase hfew hline rfl (thn (ho pins s σ H _ I h) fun v s1 ⟨x, H1, I1, r1, ty, q1⟩ => ?_)
  obtain ⟨p, xs, rfl, hp⟩ := ty
  cases (show v = Value.ref p from r1)
  obtain ⟨its, rv, ob, e1, c1, d1, n, dd⟩ := I1.tupleN hp
  refine ⟨"tuple", id, PySem.F.plainAttrs_tuple, slot, hty, ⟨ob, e1, c1⟩, fun a ea => by cases ea; exact ⟨ob, e1, d1⟩, ?_⟩
  have hA := ha cpos pins s1 σ H1 _ I1 q1
  rw [hs] at hA ⊢
  refine Calls.callWith_builtin (by show (false || (backTo cpos (starEach es X.env)).any (·.1)) = false; rw [hplain] <;> rfl) (Calls.evalArgs_plain ?_)
  exact thn hA fun us s2 ⟨vs, H2, I2, r2, q2⟩ => hm pins s2 σ H2 (.ref p) vs (.ref p) us Q I2 r1 r2 q2
end
end L2

/-! sorted of a tuple of whole numbers; tuple(range(n)). -/
namespace L2
open PySem PySem.W PyProof.Rows
section
variable {prog : Program} {w : World} {A : Around} {E : Value → Shared → Prop} {s : Shared}
theorem sorted_tup {l : Addr} {vs : List Value} {ns : List Int} {Q : Value → Shared → Prop} (hl : IsTup s.heap l vs.toArray) (hI : IntsAre vs ns) (h64 : vs.length < 64)
    (h : ∀ (g : Heap) (out : Array Value) (ns' : List Int), (∀ b o, s.heap.get? b = some o → g.get? b = some o) → IntsAre out.toList ns' → ns'.Perm ns → ns'.Pairwise (· ≤ ·) → Q (.ref g.objs.size) { s with heap := sortedHeap (g.push (seqObj "list" vs.toArray 0)) g.objs.size vs out }) :
    wpAny (model prog w) A (call (.builtin "sorted") [.ref l]) Q E s := by
  obtain ⟨ob, ho, hc, n, hd⟩ := hl
  refine Calls.call_function_entry kind_sorted plain_sorted entry_sorted (args_sorted1 _) ?_
  unfold Builtin.«sorted»
  refine wpAny_bind (m := checkCount "sorted" 1 1 _) (wpAny_pure ?_)
  refine wpAny_bind (wpAny_collect_seq l (.inr rfl) ho hc hd (fun g hk => ?_) (by rw [List.size_toArray, sizeLine_eq]; omega))
  rw [show vs.toArray.toList = vs by simp]
  refine wpAny_bind (wpAny_newList ?_ (by rw [sizeLine_eq]; omega))
  have hoL : (g.push (seqObj "list" vs.toArray 0)).get? g.objs.size = some (seqObj "list" vs.toArray 0) := Heap.get?_push_size _ rfl
  show wpAny _ _ _ _ _ { s with heap := g.push (seqObj "list" vs.toArray 0) }
  refine wpAny_bind (wpAny_holding (wpAny_call_entry slot_list_sort ⟨_, hoL, rfl⟩ entry_list_sort (list_sort_tree hoL hI h64 fun out ns' a1 a2 a3 => ⟨_, rfl, ?_⟩) (args_list_sort _)))
  exact wpAny_pure ⟨_, rfl, h g out ns' hk a1 a2 a3⟩
theorem range_tuple_meets (r : Addr) (n : Nat) (hn : n ≤ 1000) (t u v : Tok) :
    Meets (Builtin.«tuple.__new__» ⟨[.type "tuple", .ref r], []⟩) (fun A R s => A.handled = none ∧ IsRange s.heap r 0 (n : Int) 1 t u v ∧
      ∀ (g : Heap) (tk : Nat) (acc : Array Value), (∀ b o, s.heap.get? b = some o → g.get? b = some o) → ItemsOf (fun i v => ∃ t, v = .int (0 + i * 1) t) acc n → R (.ok (.ret (.ref g.objs.size))) { s with heap := g.push { cls := .type "tuple", data := .seq acc }, toks := tk }) :=
  .of_wp fun prog w A R s h => by
    obtain ⟨hp, g, d, tk, os⟩ := s; obtain ⟨hh, hr, h⟩ := h
    have hsub := sub_tuple_self
    have hinit := init_tuple_lookup
    have hmh := madeHere_tuple
    have hT : Shared.TypeIs ⟨hp, g, d, tk, os⟩ (.ref r) "range" := ⟨_, hr, rfl⟩
    have hs : Builtin.Range.rangeSize 0 (n : Int) 1 = n := by
      unfold Builtin.Range.rangeSize
      rw [if_pos (by decide)]
      by_cases h0 : (0 : Int) < n
      · rw [if_pos h0, Int.ediv_one]; omega
      · rw [if_neg h0]; omega
    have hsm : Builtin.Range.small 0 (n : Int) 1 = true := by unfold Builtin.Range.small; rw [hs]; unfold Builtin.Range.rangeFitsLong; simp; omega
    have hh1 : A.in1.handled = none := hh
    have hlen : n ≤ 2 ^ 24 := by omega
    wp_walk using AutoSeq1.wpAny_loadPart' hr, wpAny_typeOf hT, collect_range hh1 hr hsm hs hlen
    intro g2 tk2 acc hk _ hacc
    show wpAny _ _ (Builtin.Tuple.tupleExact acc.toList.toArray >>= fun v => ret v) _ _ _
    unfold Builtin.Tuple.tupleExact
    refine wpAny_bind (wpAny_newObj_type ?_ (by show acc.toList.toArray.size ≤ sizeLine; rw [Array.toArray_toList, hacc.1, sizeLine_eq]; omega))
    refine wpAny_pure ⟨_, rfl, ?_⟩
    rw [Array.toArray_toList]
    exact h g2 tk2 acc hk hacc
end
section
variable {X : Cx}
theorem call_tupR (hc : X.calm = true) : CallR X (.type "tuple") (fun xs H Q => ∃ (a : Addr) (n : Nat), xs = [.ref a] ∧ H a = some (.rng 0 (n : Int)) ∧ n ≤ 1000 ∧ New H (.tup ((List.range n).map fun (k : Nat) => V.int (k : Int))) Q) := by
  intro pins s σ H xs us Q I r h
  obtain ⟨a, n, rfl, ha, hn, q⟩ := h
  obtain ⟨u, rfl, ru⟩ := vals1 r
  cases (show u = Value.ref a from ru)
  obtain ⟨t, u, v, hr⟩ := I.hok a _ ha
  refine callType_new F.called_tuple (by decide) (F.typeCall_tuple_1 _) (F.newCall_tuple_1 _) (fun obj => F.args_object_init_2 obj _) F.entry_tuple_new (range_tuple_meets a n hn t u v) ⟨I.ok.hd hc, hr, fun g tk acc hk hacc => ⟨⟨_, Heap.get?_push_size _ rfl, rfl⟩, ?_⟩⟩
  have I1 : Inv X pins σ H { s with heap := g, toks := tk } := I.kept (t' := tk) hk
  have I2 : Inv X pins σ (upd H g.objs.size (.tup ((List.range n).map fun (k : Nat) => V.int (k : Int)))) { s with heap := g.push { cls := .type "tuple", data := .seq acc }, toks := tk } := by
    refine I1.laid (t' := tk) (fun b o e => Heap.get?_push_of_some _ e) (Nat.le_refl _) ⟨?_, acc.toList, ?_, ?_⟩
    · rw [List.length_map, List.length_range]; exact Nat.le_trans hn (by decide)
    · refine vals_at (by rw [List.length_map, List.length_range, Array.length_toList, hacc.1]) fun i x hx => ?_
      rw [List.getElem?_map] at hx
      obtain ⟨k, hk2, rfl⟩ := Option.map_eq_some_iff.mp hx
      have hik : i < n := by have := (List.getElem?_eq_some_iff.mp hk2).1; rw [List.length_range] at this; exact this
      rw [List.getElem?_range hik] at hk2
      cases hk2
      have hi2 : i < acc.size := by rw [hacc.1]; exact hik
      have e := Array.getElem?_eq_getElem hi2
      obtain ⟨t2, e2⟩ := hacc.2 i _ e
      refine ⟨_, by rw [Array.getElem?_toList]; exact e, ⟨t2, ?_⟩⟩
      rw [e2]
      congr 1
      omega
    · have := IsTupN.new g acc.toList.toArray
      rw [Array.toArray_toList] at this ⊢
      exact this
  exact ⟨.ref g.objs.size, _, I2, rfl, q.of _ (I1.hok.fresh (Nat.le_refl _))⟩
theorem call_sortedT : CallR X (.builtin "sorted") (fun xs H Q => ∃ (p : Addr) (ns : List Int), xs = [.ref p] ∧ SqT X.K H p (ns.map V.int) ∧ ns.length < 64 ∧ ∀ (l : Addr) (ns' : List Int), H l = none → ns'.Perm ns → ns'.Pairwise (· ≤ ·) → Q (.ref l) (upd H l (.lst (ns'.map V.int)))) := by
  intro pins s σ H xs us Q I r h
  obtain ⟨p, ns, rfl, hq, hn, q⟩ := h
  obtain ⟨u, rfl, ru⟩ := vals1 r
  cases (show u = Value.ref p from ru)
  obtain ⟨its, rv, pl, hz⟩ := I.tuple hq
  have hl : its.length = ns.length := by rw [← rv.length, List.length_map]
  refine sorted_tup pl (ints_are rv) (by omega) fun g out ns' hk a1 a2 a3 => ?_
  have I1 : Inv X pins σ H { s with heap := g } := I.kept (t' := s.toks) hk
  obtain ⟨c, hc⟩ := sortedHeap_at (h := g.push (seqObj "list" its.toArray 0)) (a := g.objs.size) (vs := its) (out := out) (n := 0) (Heap.get?_push_size _ rfl)
  refine ⟨.ref g.objs.size, _, I1.laid (o := .lst (ns'.map V.int)) (t' := s.toks) (fun b u e => sortedHeap_keep (Nat.ne_of_lt (Heap.lt_size e)) (Heap.get?_push_of_some _ e)) (Nat.le_refl _) ⟨?_, out.toList, c, vals_ints a1, ?_⟩, rfl, q _ ns' (I1.hok.fresh (Nat.le_refl _)) a2 a3⟩
  · rw [List.length_map, a2.length_eq]; exact Nat.le_trans (by omega : ns.length ≤ 1000) (by decide)
  · rw [Array.toArray_toList]; exact hc
end
end L2

/-! nets and tables mirrored: the mathematics and the promises. -/
namespace HN
open PySem L2 PyProof.Rows
theorem plsC (d : Dt) (ds : List Dt) : pls (d :: ds) = (pl d && pls ds) := by rw [pls]
theorem plsN : pls [] = true := by rw [pls]
theorem plI (i : Int) : pl (.int i) = true := by unfold pl; rfl
theorem plT (ds : List Dt) : pl (.tup ds) = pls ds := by rw [pl]
theorem depsC (d : Dt) (ds : List Dt) : deps (d :: ds) = max (dep d) (deps ds) := by rw [deps]
theorem depsN : deps [] = 0 := by rw [deps]
theorem depI (i : Int) : dep (.int i) = 0 := by unfold dep; rfl
theorem depT (ds : List Dt) : dep (.tup ds) = deps ds + 1 := by rw [dep]
theorem pls_netP (b m : Int) (sp : List Sn) : pls [.int b, .int m, .tup (sp.map fun x => .tup (x.row.map Dt.int))] = true := by
  rw [plsC, plsC, plsC, plsN, plI, plI, plT, show pls (sp.map fun x => Dt.tup (x.row.map Dt.int)) = true from pls_rows Sn.row sp]; rfl
theorem deps_netP (b m : Int) (sp : List Sn) : deps [.int b, .int m, .tup (sp.map fun x => .tup (x.row.map Dt.int))] < 60 := by
  rw [depsC, depsC, depsC, depsN, depI, depI, depT]
  have h : deps (sp.map fun x => Dt.tup (x.row.map Dt.int)) ≤ 1 := deps_rows Sn.row sp
  omega
theorem netP_keepM {H H' : Hp} {v : V} {b m : Int} {sp : List Sn} (e : TupK H H') (h : IsD H v (netP b m sp)) : IsD H' v (netP b m sp) := by
  obtain ⟨t, xs, rfl, ht, rx⟩ := h.tup_of
  cases rx with
  | cons h0 r0 =>
    cases r0 with
    | cons h1 r1 =>
      cases r1 with
      | cons h2 r2 =>
        cases r2
        cases h0
        cases h1
        obtain ⟨p, ys, rfl, hp, ry⟩ := h2.tup_of
        exact .tup (e _ _ ht) (.cons (.int _) (.cons (.int _) (.cons (.tup (e _ _ hp) (rows_keep (f := Sn.row) (xs := sp) e ry)) .nil)))
/-! ### mirrored -/
/-! ### all true -/
theorem inV_trues : ∀ n : Nat, inV (.bl false) (List.replicate n (V.bl true)) = false
  | 0 => rfl
  | n + 1 => by
    rw [List.replicate_succ]
    show (eqV (.bl true) (.bl false) || inV (.bl false) (List.replicate n (V.bl true))) = false
    rw [inV_trues n]; rfl
theorem flat_trues (n : Nat) : (List.replicate n (V.bl true)).all flatV = true := List.all_eq_true.mpr fun x hx => by rw [List.eq_of_mem_replicate hx]; rfl
/-! ### promises -/
def spWaitsN : Sp := fun vs H Q _ => ∃ (v : V) (u : Addr) (b m : Int) (sp : List Sn) (ts : List Int), vs = [v, .ref u] ∧ IsD H v (netP b m sp) ∧ H u = some (.tup (ts.map V.int)) ∧ Rdy b ts sp ∧ ∀ p H', Same H H' → H' p = some (.lst ((waitsM b ts sp).map V.int)) → Q (.ref p) H'
def spIsNet : Sp := fun vs H Q _ => ∃ (v u : V) (b m : Int) (sp : List Sn), vs = [v, u] ∧ IsD H v (netP b m sp) ∧ IsD H u (netP b m sp) ∧ sp.length ≤ 40 ∧ ∀ H', Same H H' → Q (.bl true) H'
def spIsTab : Sp := fun vs H Q _ => ∃ (p q : Addr) (ns : List Int), vs = [.ref p, .ref q] ∧ H p = some (.tup (ns.map V.int)) ∧ H q = some (.tup (ns.map V.int)) ∧ ns.length ≤ 1000 ∧ ∀ H', Same H H' → Q (.bl true) H'
def spDrawnT : Sp := fun vs H Q _ => ∃ (p t : Addr) (b m : Int) (rest : List V), vs = [.ref p, .ref t] ∧ Dk p H ∧ H t = some (.tup (.int b :: .int m :: rest)) ∧ 1 ≤ b ∧ b < 10 ^ 61 ∧ 0 ≤ m ∧ m ≤ 16 ∧ ∀ (u : Addr) (ts : List Int) (H' : Hp), Md p H H' → H' u = some (.tup (ts.map V.int)) → (ts.length : Int) = m → (∀ x ∈ ts, 0 ≤ x ∧ x < b) → Q (.ref u) H'
end HN

/-! nets side by side: the mathematics and the promises. -/
namespace HN
open PySem L2 PyProof.Rows
def namS (js : List Int) (x : Sn) : Sn := ⟨tm js x.s, tm js x.g, x.l, x.o, x.w⟩
def sideS (k : Int) (x : Sn) : Sn := ⟨x.s + k, x.g + k, x.l, x.o, x.w⟩
theorem Rdy.side {b k : Int} {t1 t2 : List Int} {sp1 sp2 : List Sn} (hk : (t1.length : Int) = k) (R1 : Rdy b t1 sp1) (R2 : Rdy b t2 sp2) (few : sp1.length + sp2.length ≤ 1000) : Rdy b (t1 ++ t2) (sp1 ++ sp2.map (sideS k)) :=
  ⟨R1.b1, by rw [List.length_append, List.length_map]; exact few, fun x hx => by
    rw [List.length_append]
    rcases List.mem_append.mp hx with hx | hx
    · obtain ⟨s0, s1, g0, g1⟩ := R1.ends x hx
      exact ⟨s0, by omega, g0, by omega⟩
    · obtain ⟨y, hy, rfl⟩ := List.mem_map.mp hx
      obtain ⟨s0, s1, g0, g1⟩ := R2.ends y hy
      show 0 ≤ y.s + k ∧ y.s + k < ((t1.length + t2.length : Nat) : Int) ∧ 0 ≤ y.g + k ∧ y.g + k < ((t1.length + t2.length : Nat) : Int)
      omega⟩
/-! ### promises -/
def spNamed : Sp := fun vs H Q _ => ∃ (q L : Addr) (x : Sn) (js : List Int), vs = [.ref q, .ref L] ∧ H q = some (.tup (x.row.map V.int)) ∧ H L = some (.lst (js.map V.int)) ∧ 0 ≤ x.s ∧ x.s < js.length ∧ 0 ≤ x.g ∧ x.g < js.length ∧ ∀ p H', Same H H' → H' p = some (.tup ((namS js x).row.map V.int)) → Q (.ref p) H'
structure Sides (b m1 m2 : Int) (sp1 sp2 : List Sn) : Prop where
  N1 : NetT b m1 sp1
  N2 : NetT b m2 sp2
  m : m1 + m2 ≤ 16
  few : sp1.length + sp2.length ≤ 40
def TabsL (H : Hp) (b m : Int) (us : List V) : Prop := ∀ u ∈ us, ∃ (q : Addr) (ts : List Int), u = .ref q ∧ H q = some (.tup (ts.map V.int)) ∧ (ts.length : Int) = m
theorem TabsL.same {H H' : Hp} {b m : Int} {us : List V} (h : TabsL H b m us) (e : Same H H') : TabsL H' b m us := fun u hu => let ⟨q, ts, a, c, d⟩ := h u hu; ⟨q, ts, a, e _ _ c, d⟩
end HN

/-! orders: the mathematics and the promises. -/
namespace HN
open PySem L2 PyProof.Rows
theorem pop_perm {α : Type} : ∀ (l : List α) (i : Nat) (x : α), l[i]? = some x → (x :: l.eraseIdx i).Perm l
  | [], _, _, h => by simp at h
  | a :: l, 0, x, h => by cases h; exact List.Perm.refl _
  | a :: l, i + 1, x, h => by
    have h := pop_perm l i x h
    show (x :: a :: l.eraseIdx i).Perm (a :: l)
    exact (List.Perm.swap a x _).trans (h.cons a)
def rgI (n : Nat) : List Int := (List.range n).map fun (k : Nat) => (k : Int)
theorem rgI_len (n : Nat) : (rgI n).length = n := by unfold rgI; rw [List.length_map, List.length_range]
theorem rgI_at {n i : Nat} (h : i < n) : (rgI n)[i]? = some (i : Int) := by unfold rgI; rw [List.getElem?_map, List.getElem?_range h]; rfl
theorem rgI_mem {n : Nat} {a : Int} : a ∈ rgI n ↔ 0 ≤ a ∧ a < n := by
  unfold rgI
  rw [List.mem_map]
  constructor
  · rintro ⟨k, hk, rfl⟩
    have := List.mem_range.mp hk
    omega
  · rintro ⟨h0, h1⟩
    exact ⟨a.toNat, List.mem_range.mpr (by omega), by omega⟩
theorem rgI_nodup (n : Nat) : (rgI n).Nodup := List.pairwise_map.mpr (List.pairwise_lt_range.imp fun h => by omega)
theorem rgI_le (n : Nat) : (rgI n).Pairwise (· ≤ ·) := List.pairwise_map.mpr (List.pairwise_lt_range.imp fun h => by omega)
abbrev Ord (os : List Int) (n : Nat) : Prop := os.Perm (rgI n)
theorem sorted_ord {os ns : List Int} {n : Nat} (h : Ord os n) (p : ns.Perm os) (s : ns.Pairwise (· ≤ ·)) : ns = rgI n :=
  List.Perm.eq_of_pairwise (fun a b _ _ h1 h2 => Int.le_antisymm h1 h2) s (rgI_le n) (p.trans h)
section
variable {os : List Int} {n : Nat}
theorem Ord.len (h : Ord os n) : os.length = n := by rw [List.Perm.length_eq h, rgI_len]
theorem Ord.nodup (h : Ord os n) : os.Nodup := (List.Perm.nodup_iff h).mpr (rgI_nodup n)
theorem Ord.mem (h : Ord os n) {a : Int} : a ∈ os ↔ 0 ≤ a ∧ a < n := (List.Perm.mem_iff h).trans rgI_mem
def posI (os : List Int) (k : Int) : Int := ((os.idxOf k : Nat) : Int)
def posL (os : List Int) (n : Nat) : List Int := (rgI n).map (posI os)
theorem posL_len (os : List Int) (n : Nat) : (posL os n).length = n := by unfold posL; rw [List.length_map, rgI_len]
theorem posL_tm (os : List Int) {i : Int} (h0 : 0 ≤ i) (h1 : i < n) : tm (posL os n) i = posI os i := by
  have hi : i.toNat < n := by omega
  have e : ((i.toNat : Nat) : Int) = i := by omega
  unfold tm posL
  rw [List.getD_eq_getElem?_getD, List.getElem?_map, rgI_at hi, e]; rfl
theorem Ord.lt (h : Ord os n) {k : Int} (h0 : 0 ≤ k) (h1 : k < n) : os.idxOf k < os.length := List.idxOf_lt_length_iff.mpr (h.mem.mpr ⟨h0, h1⟩)
theorem Ord.at (h : Ord os n) {k : Int} (h0 : 0 ≤ k) (h1 : k < n) : os[os.idxOf k]? = some k := by
  rw [List.getElem?_eq_getElem (h.lt h0 h1), List.getElem_idxOf]
theorem Ord.first (h : Ord os n) {k : Int} {j : Nat} (hj : j < os.idxOf k) : os[j]? ≠ some k := fun e => by
  obtain ⟨hl, e2⟩ := List.getElem?_eq_some_iff.mp e
  have := h.nodup.idxOf_getElem j hl
  rw [e2] at this
  omega
theorem Ord.pos_in (h : Ord os n) {k : Int} (h0 : 0 ≤ k) (h1 : k < n) : 0 ≤ posI os k ∧ posI os k < n := by
  have := h.lt h0 h1
  rw [h.len] at this
  unfold posI
  omega
theorem Ord.tmpos (h : Ord os n) {k : Int} (h0 : 0 ≤ k) (h1 : k < n) : tm os (posI os k) = k := by
  unfold tm posI
  rw [Int.toNat_natCast, List.getD_eq_getElem?_getD, h.at h0 h1]; rfl
theorem Ord.tm_in (h : Ord os n) {i : Int} (h0 : 0 ≤ i) (h1 : i < n) : 0 ≤ tm os i ∧ tm os i < n := by
  have hi : i.toNat < os.length := by rw [h.len]; omega
  have e : tm os i = os[i.toNat] := by unfold tm; rw [List.getD_eq_getElem?_getD, List.getElem?_eq_getElem hi]; rfl
  rw [e]
  exact h.mem.mp (List.getElem_mem hi)
theorem Ord.postm (h : Ord os n) {i : Int} (h0 : 0 ≤ i) (h1 : i < n) : posI os (tm os i) = i := by
  have hi : i.toNat < os.length := by rw [h.len]; omega
  have e : tm os i = os[i.toNat] := by unfold tm; rw [List.getD_eq_getElem?_getD, List.getElem?_eq_getElem hi]; rfl
  rw [e]
  unfold posI
  rw [h.nodup.idxOf_getElem i.toNat hi]
  omega
theorem Ord.back (h : Ord os n) : Ord (posL os n) n := by
  refine (List.perm_ext_iff_of_nodup ?_ (rgI_nodup n)).mpr fun a => ?_
  · refine List.pairwise_map.mpr ((rgI_nodup n).imp_of_mem fun {a b} ha hb hne e => hne ?_)
    obtain ⟨a0, a1⟩ := rgI_mem.mp ha
    obtain ⟨b0, b1⟩ := rgI_mem.mp hb
    rw [← h.tmpos a0 a1, e, h.tmpos b0 b1]
  · rw [rgI_mem]
    constructor
    · intro ha
      obtain ⟨k, hk, rfl⟩ := List.mem_map.mp ha
      obtain ⟨k0, k1⟩ := rgI_mem.mp hk
      exact h.pos_in k0 k1
    · rintro ⟨h0, h1⟩
      exact List.mem_map.mpr ⟨tm os a, rgI_mem.mpr (h.tm_in h0 h1), h.postm h0 h1⟩
end
theorem Ord.rg (n : Nat) : Ord (rgI n) n := List.Perm.refl _
theorem tm_rg {n : Nat} {k : Int} (h0 : 0 ≤ k) (h1 : k < n) : tm (rgI n) k = k := by
  have hi : k.toNat < n := by omega
  unfold tm
  rw [List.getD_eq_getElem?_getD, rgI_at hi]
  show ((k.toNat : Nat) : Int) = k
  omega
theorem posI_rg {n : Nat} {k : Int} (h0 : 0 ≤ k) (h1 : k < n) : posI (rgI n) k = k := by
  have := (Ord.rg n).postm h0 h1
  rw [tm_rg h0 h1] at this
  exact this
/-- all ends are happenings -/
def EndsIn (n : Nat) (sp : List Sn) : Prop := ∀ x ∈ sp, 0 ≤ x.s ∧ x.s < n ∧ 0 ≤ x.g ∧ x.g < n
theorem nam_back {os : List Int} {n : Nat} {sp : List Sn} (h : Ord os n) (hs : EndsIn n sp) : (sp.map (namS (posL os n))).map (namS (posL (posL os n) n)) = sp := by
  rw [List.map_map]
  conv => rhs; rw [← List.map_id sp]
  refine List.map_congr_left fun x hx => ?_
  obtain ⟨s0, s1, g0, g1⟩ := hs x hx
  have e : ∀ k : Int, 0 ≤ k → k < n → tm (posL (posL os n) n) (tm (posL os n) k) = k := fun k k0 k1 => by
    obtain ⟨t0, t1⟩ := h.back.tm_in k0 k1
    rw [posL_tm _ t0 t1, h.back.postm k0 k1]
  show (⟨tm (posL (posL os n) n) (tm (posL os n) x.s), tm (posL (posL os n) n) (tm (posL os n) x.g), x.l, x.o, x.w⟩ : Sn) = x
  rw [e _ s0 s1, e _ g0 g1]
theorem nam_rg {n : Nat} {sp : List Sn} (hs : EndsIn n sp) : sp.map (namS (posL (rgI n) n)) = sp := by
  conv => rhs; rw [← List.map_id sp]
  refine List.map_congr_left fun x hx => ?_
  obtain ⟨s0, s1, g0, g1⟩ := hs x hx
  show (⟨tm (posL (rgI n) n) x.s, tm (posL (rgI n) n) x.g, x.l, x.o, x.w⟩ : Sn) = x
  rw [posL_tm _ s0 s1, posL_tm _ g0 g1, posI_rg s0 s1, posI_rg g0 g1]
theorem EndsIn.nam {os : List Int} {n : Nat} {sp : List Sn} (h : Ord os n) (hs : EndsIn n sp) : EndsIn n (sp.map (namS (posL os n))) := fun x hx => by
  obtain ⟨y, hy, rfl⟩ := List.mem_map.mp hx
  obtain ⟨s0, s1, g0, g1⟩ := hs y hy
  have a := h.back.tm_in s0 s1
  have c := h.back.tm_in g0 g1
  exact ⟨a.1, a.2, c.1, c.2⟩
def permT (ts os : List Int) : List Int := os.map (tm ts)
theorem permT_len (ts os : List Int) : (permT ts os).length = os.length := by unfold permT; rw [List.length_map]
theorem tm_perm {os : List Int} {n : Nat} (h : Ord os n) (ts : List Int) {k : Int} (h0 : 0 ≤ k) (h1 : k < n) : tm (permT ts os) (posI os k) = tm ts k := by
  unfold permT posI
  show (os.map (tm ts)).getD ((os.idxOf k : Nat) : Int).toNat 0 = tm ts k
  rw [Int.toNat_natCast, List.getD_eq_getElem?_getD, List.getElem?_map, h.at h0 h1]; rfl
theorem waitM_nam {os ts : List Int} {n : Nat} {sp : List Sn} {b : Int} (h : Ord os n) (hs : EndsIn n sp) : ∀ x ∈ sp, waitM b (permT ts os) (namS (posL os n) x) = waitM b ts x := fun x hx => by
  obtain ⟨s0, s1, g0, g1⟩ := hs x hx
  show (tm (permT ts os) (tm (posL os n) x.g) - tm (permT ts os) (tm (posL os n) x.s) - x.l) % b = waitM b ts x
  rw [posL_tm _ s0 s1, posL_tm _ g0 g1, tm_perm h ts s0 s1, tm_perm h ts g0 g1]; rfl
theorem waitsM_nam {os ts : List Int} {n : Nat} {sp : List Sn} {b : Int} (h : Ord os n) (hs : EndsIn n sp) : waitsM b (permT ts os) (sp.map (namS (posL os n))) = waitsM b ts sp := by
  unfold waitsM
  rw [List.map_map]
  exact List.map_congr_left fun x hx => waitM_nam h hs x hx
theorem Rdy.nam {os ts : List Int} {n : Nat} {sp : List Sn} {b : Int} (R : Rdy b ts sp) (h : Ord os n) (hs : EndsIn n sp) : Rdy b (permT ts os) (sp.map (namS (posL os n))) :=
  ⟨R.b1, by rw [List.length_map]; exact R.few, fun x hx => by
    have := hs.nam h x hx
    rw [permT_len, h.len]
    exact this⟩
theorem perm_rg {ts : List Int} {n : Nat} (ht : ts.length = n) : permT ts (rgI n) = ts := by
  unfold permT
  refine List.ext_getElem? fun i => ?_
  by_cases hi : i < n
  · rw [List.getElem?_map, rgI_at hi]
    show some (tm ts (i : Int)) = ts[i]?
    have hl : i < ts.length := by omega
    unfold tm
    rw [Int.toNat_natCast, List.getD_eq_getElem?_getD, List.getElem?_eq_getElem hl]; rfl
  · rw [List.getElem?_eq_none (by rw [List.length_map, rgI_len]; omega), List.getElem?_eq_none (by omega)]
theorem perm_back {os ts : List Int} {n : Nat} (h : Ord os n) (ht : ts.length = n) : permT (permT ts os) (posL os n) = ts := by
  have e : permT (permT ts os) (posL os n) = permT ts (rgI n) := by
    unfold posL
    show ((rgI n).map (posI os)).map (tm (permT ts os)) = (rgI n).map (tm ts)
    rw [List.map_map]
    refine List.map_congr_left fun k hk => ?_
    obtain ⟨k0, k1⟩ := rgI_mem.mp hk
    exact tm_perm h ts k0 k1
  rw [e, perm_rg ht]
/-! ### promises -/
def OrdAt (H : Hp) (t u : Addr) (n : Nat) (os : List Int) : Prop := (∃ (b : Int) (rest : List V), H t = some (.tup (.int b :: .int (n : Int) :: rest))) ∧ H u = some (.tup (os.map V.int)) ∧ Ord os n ∧ n ≤ 16
def spIsOrder : Sp := fun vs H Q _ => ∃ (t u : Addr) (n : Nat) (os : List Int), vs = [.ref t, .ref u] ∧ OrdAt H t u n os ∧ ∀ H', Same H H' → Q (.bl true) H'
def spCheckO : Sp := fun vs H Q _ => ∃ (t u : Addr) (n : Nat) (os : List Int), vs = [.ref t, .ref u] ∧ OrdAt H t u n os ∧ ∀ H', Same H H' → Q .non H'
def spNamedA : Sp := fun vs H Q _ => ∃ (v : V) (u : Addr) (b : Int) (n : Nat) (sp : List Sn) (os : List Int), vs = [v, .ref u] ∧ IsD H v (netP b (n : Int) sp) ∧ H u = some (.tup (os.map V.int)) ∧ Ord os n ∧ n ≤ 16 ∧ EndsIn n sp ∧ sp.length ≤ 1000 ∧ ∀ w H', Same H H' → IsD H' w (netP b (n : Int) (sp.map (namS (posL os n)))) → Q w H'
def spTabNam : Sp := fun vs H Q _ => ∃ (t u1 u2 : Addr) (n : Nat) (ts os : List Int), vs = [.ref t, .ref u1, .ref u2] ∧ OrdAt H t u2 n os ∧ H u1 = some (.tup (ts.map V.int)) ∧ ts.length = n ∧ ∀ p H', Same H H' → H' p = some (.tup ((permT ts os).map V.int)) → Q (.ref p) H'
def spOrderL : Sp := fun vs H Q _ => ∃ (p : Addr) (n : Nat), vs = [.ref p, .int (n : Int)] ∧ Dk p H ∧ n ≤ 16 ∧ ∀ (u : Addr) (os : List Int) (H' : Hp), Md p H H' → H' u = some (.tup (os.map V.int)) → Ord os n → Q (.ref u) H'
end HN

namespace HN
open PySem L2 PyProof.Rows
def top (i : Nat) : Stmt := PySem.Challenge.pw_hourtable_k72_named_anew.main.body.getD i (.Pass ⟨0, 0, 0, 0⟩)
end HN

/-! a deck. -/
namespace HN
open PySem L2 PyProof.Rows
abbrev sNums : Stmt := top 12
theorem cut_upto {xs : List V} {i : Int} {n : Nat} (hi : i = (n : Int)) : cutV xs none (some i) = xs.take n := by
  unfold cutV
  subst hi
  have e := HT.sIx_nat xs.length xs.length n
  rw [e]
  show (xs.drop 0).take (min n xs.length - 0) = xs.take n
  rw [List.drop_zero, Nat.sub_zero]
  by_cases h : n ≤ xs.length
  · rw [Nat.min_eq_left h]
  · rw [Nat.min_eq_right (by omega), List.take_length, List.take_of_length_le (by omega)]
def spNums (K : PySem.W.Frag) : Sp := fun vs H Q _ => ∃ (a : Addr) (ns : List Int) (m : Int), vs = [.ref a, .int m] ∧ SqL K H a (ns.map V.int) ∧ 64 ≤ m ∧ m ≤ 900 ∧ ∀ p H1 H', Same H H1 → H1 p = none → Md p H1 H' → Q (.ref p) H'
section
variable {P : Program} {w : World} {K : PySem.W.Frag} {mg : Str → Option Value} {base : Heap}
theorem scNums : FnScope ["_law_script", "_law_most", "_law_deck", "_law_kind", "_law_last"] ["_law_script", "_law_most"] (defScope sNums) := ⟨rfl, rfl, rfl, by decide +kernel, rfl, by decide +kernel, by decide +kernel⟩
theorem ok_nums {f : Addr} {fd : FuncData} (F : Fun K "_law_numbers" "_law_numbers" sNums f fd) (T : Nm mg) (T2 : Nt mg) : FnOk P w K mg base CX0 1 f fd ["_law_script", "_law_most"] (spNums K) := by
  refine F.ok scNums (fun vs H Q E h => by obtain ⟨a, ns, m, rfl, _⟩ := h; rfl) (fun cdv A outer s H vs Q E hr h => ?_)
  obtain ⟨a, ns, m, rfl, ha, hm1, hm2, k⟩ := h
  refine ⟨_, PSl.h (l_cons ⟨(ps_set (i := 2) scNums.nd rfl (Or.inl rfl) (pe_callTy call_list_of rfl T2.tlist boot_list (pa_cons (pe_slice sl_listA (pv 0) po_none (po_some pe_int)) pa_nil)))⟩
    (l_cons ⟨(ps_set (i := 3) scNums.nd rfl (Or.inl rfl) pe_int)⟩
    (l_cons ⟨(ps_cutK (ps_if (pt_cmpR (op_neL0 hr.units0) (pv 2) (pe_lstA pa_nil) (nomark _)) (PSl.h (l_cons ⟨(ps_set (i := 3) scNums.nd rfl (Or.inl rfl) (pe_op op_mod (pe_ix ix_list (pv 2) pe_int (fun _ _ => rfl)) pe_int))⟩
    (l_one ⟨(ps_asg (pe_op op_fdiv (pe_ix ix_list (pv 2) pe_int (fun _ _ => rfl)) pe_int) (pg_sub (pv 2) pe_int set_list))⟩))) pss_nil))⟩
    (l_cons ⟨(ps_set (i := 4) scNums.nd rfl (Or.inl rfl) (pe_op op_add pe_int (pe_op op_mod (pe_callB (call_sum rfl) rfl T2.sum boot_sum (pa_cons (pv 2) pa_nil)) pe_int)))⟩
    (l_cons ⟨(ps_while PassesOwn.never (pt_cmpR op_lt (pe_callB call_len_seq rfl T.len PySem.boot_len (pa_cons (pv 2) pa_nil)) (pv 1) (nomark _)) (PSl.h (l_cons ⟨(ps_set (i := 4) scNums.nd rfl (Or.inl rfl) (pe_op op_mod (pe_op op_add (pe_op op_add (pe_op op_mul (pv 4) (pv 4)) (pe_op op_mul pe_int (pv 4))) (pe_callB call_len_seq rfl T.len PySem.boot_len (pa_cons (pv 2) pa_nil))) pe_int))⟩
    (l_cons ⟨(ps_set (i := 4) scNums.nd rfl (Or.inl rfl) (pe_op op_mod (pe_op op_add (pe_op op_add (pe_op op_mul (pv 4) (pv 4)) (pe_op op_mul pe_int (pv 4))) pe_int) pe_int))⟩
    (l_one ⟨(ps_expr (pe_bm PySem.F.plainAttrs_list PySem.F.slot_list_append PySem.F.type_list_append mt_append (pv 2) (pa_cons (pv 4) pa_nil)))⟩)))))⟩
    (l_one ⟨(ps_ret (pe_op op_cat (pe_lstA (pa_cons (pv 3) pa_nil)) (pe_backL (pv 2))))⟩)))))), ?_⟩
  refine ⟨_, rfl, _, rfl, a, _, rfl, ha, fun q1 H1 S1 h1 => ?_⟩
  have h1 : H1 q1 = some (.lst ((ns.take 63).map V.int)) := by
    rw [h1, cut_upto (i := 63) (n := 63) rfl, List.map_take]
  refine ⟨q1, _, rfl, .inl (SqL.of h1), fun p hp => ?_⟩
  have S2 : Same H (upd H1 p (.lst ((ns.take 63).map V.int))) := S1.trans (Same.put (Same.refl H1) hp)
  have h2 : (upd H1 p (.lst ((ns.take 63).map V.int))) p = some (.lst ((ns.take 63).map V.int)) := upd_same
  have E2 : ∀ b o, b ≠ p → H1 b = some o → (upd H1 p (.lst ((ns.take 63).map V.int))) b = some o := fun b o hb e => by rw [upd_ne hb]; exact e
  have l2 : (ns.take 63).length ≤ 63 := by rw [List.length_take]; omega
  generalize upd H1 p (.lst ((ns.take 63).map V.int)) = H2 at S2 h2 E2 ⊢
  generalize ns.take 63 = d2 at h2 l2
  refine ⟨fun σ' H' => ∃ (kd : Int) (ds : List Int), σ' = [some (.ref a), some (.int m), some (.ref p), some (.int kd), none] ∧ H' p = some (.lst (ds.map V.int)) ∧ ds.length ≤ 63 ∧ ∀ b o, b ≠ p → H1 b = some o → H' b = some o, ?_, ?_⟩
  rotate_left
  · refine ⟨_, rfl, Nat.zero_le _, fun q3 H3 S3 h3 => ⟨p, q3, _, rfl, rfl, SqL.of (S3 _ _ h2), SqL.of h3, _, rfl, ?_⟩⟩
    have E3 : ∀ b o, b ≠ p → H1 b = some o → H3 b = some o := fun b o hb e => S3 _ _ (E2 b o hb e)
    refine ite2 (fun hc => ?_) (fun _ => ⟨0, d2, rfl, S3 _ _ h2, l2, E3⟩)
    cases d2 with
    | nil => exact absurd hc (by decide)
    | cons d ds =>
      refine ⟨_, rfl, p, _, _, _, rfl, rfl, SqL.of (S3 _ _ h2), atI_nat (j := 0) rfl, _, _, rfl, rfl, (by show (0 : Int) < 2; decide), ?_⟩
      refine ⟨_, rfl, p, _, _, _, rfl, rfl, SqL.of (S3 _ _ h2), atI_nat (j := 0) rfl, _, _, rfl, rfl, ⟨by decide, by decide⟩, _, rfl, p, _, _, 0, rfl, rfl, S3 _ _ h2, (by simp [ixN]), ?_⟩
      exact ⟨_, d / 2 :: ds, rfl, by rw [upd_same]; rfl, l2, fun b o hb e => by rw [upd_ne hb]; exact E3 b o hb e⟩
  rintro σ' H3 ⟨kd, ds, rfl, h3, l3, E3⟩
  clear h2 E2 S2 H2 l2 d2
  refine ⟨_, rfl, p, ds, rfl, SqL.of h3, _, _, rfl, rfl, (by show (0 : Int) < 2147483647; decide), _, _, rfl, rfl, ?_⟩
  have s0 := Int.emod_nonneg ds.sum (by decide : (2147483647 : Int) ≠ 0)
  have s1 := Int.emod_lt_of_pos ds.sum (by decide : (0 : Int) < 2147483647)
  refine ⟨fun n σ H' => ∃ (la : Int) (ds : List Int), n = 1000 - ds.length ∧ σ = [some (.ref a), some (.int m), some (.ref p), some (.int kd), some (.int la)] ∧ H' p = some (.lst (ds.map V.int)) ∧ ds.length ≤ 900 ∧ 0 ≤ la ∧ la < 4294967296 ∧ ∀ b o, b ≠ p → H1 b = some o → H' b = some o, ⟨_, _, ds, rfl, rfl, h3, by omega, by omega, by omega, E3⟩, ?_⟩
  rintro n σ H4 ⟨la, ds, rfl, rfl, h4, l4, a0, a1, E4⟩
  refine ⟨_, rfl, p, _, rfl, .inl (SqL.of h4), _, rfl, _, _, rfl, rfl, _, rfl, ?_⟩
  refine ite2 (fun hc => ?_) (fun hc => ?_)
  · have hc : ((ds.map V.int).length : Int) < m := of_decide_eq_true hc
    rw [List.length_map] at hc
    refine ⟨_, fun σ' H' z => z, ?_⟩
    refine ⟨_, rfl, _, rfl, _, _, rfl, rfl, .inl ⟨by omega, by omega⟩, _, rfl, _, _, rfl, rfl, .inl ⟨by decide, by decide⟩, _, _, rfl, rfl, _, rfl, p, _, rfl, .inl (SqL.of h4), _, _, rfl, rfl, _, _, rfl, rfl, (by show (0 : Int) < 2147483647; decide), ?_⟩
    have t0 := Int.emod_nonneg (la * la + 48271 * la + ((ds.map V.int).length : Int)) (by decide : (2147483647 : Int) ≠ 0)
    have t1 := Int.emod_lt_of_pos (la * la + 48271 * la + ((ds.map V.int).length : Int)) (by decide : (0 : Int) < 2147483647)
    refine ⟨_, rfl, _, rfl, _, _, rfl, rfl, .inl ⟨by omega, by omega⟩, _, rfl, _, _, rfl, rfl, .inl ⟨by decide, by decide⟩, _, _, rfl, rfl, _, _, rfl, rfl, _, _, rfl, rfl, (by show (0 : Int) < 2147483629; decide), ?_⟩
    refine ⟨_, rfl, .inl ⟨rfl, _, SqL.of h4⟩, _, rfl, p, _, _, rfl, rfl, h4, (Nat.lt_of_lt_of_le (by rw [List.length_map]; omega : (ds.map V.int).length < 1000) (by decide : 1000 ≤ sizeLine)), ?_⟩
    refine ⟨1000 - (ds.length + 1), by omega, _, ds ++ [_], by rw [List.length_append]; rfl, rfl, by rw [upd_same, List.map_append]; rfl, by rw [List.length_append]; show ds.length + 1 ≤ 900; omega, Int.emod_nonneg _ (by decide), Int.lt_trans (Int.emod_lt_of_pos _ (by decide)) (by decide), fun b o hb e => by rw [upd_ne hb]; exact E4 b o hb e⟩
  · refine ⟨_, rfl, (by show 1 ≤ sizeLine; decide), fun q5 H5 S5 h5 => ⟨_, rfl, p, _, rfl, S5 _ _ h4, fun q6 H6 S6 h6 => ⟨q5, q6, _, _, rfl, rfl, S6 _ _ h5, h6, ?_, fun pd hpd => ?_⟩⟩⟩
    · rw [List.length_reverse, List.length_map]
      exact Nat.le_trans (by show 1 + ds.length ≤ 1000; omega) (by decide)
    · have hpH : H p = none := by
        cases z : H p with
        | none => rfl
        | some o => rw [S1 p o z] at hp; cases hp
      refine k pd H6 _ (fun b o e => S6 _ _ (S5 _ _ (E4 b o (fun z => by rw [z, hpH] at e; cases e) (S1 b o e)))) hpd ⟨fun b o hb e => by rw [upd_ne hb]; exact e, kd, ds.reverse, ?_, by rw [List.length_reverse]; omega⟩
      rw [upd_same, List.map_cons, List.map_reverse]; rfl
end
end HN

/-! drawing off a deck. -/
namespace HN
open PySem L2 PyProof.Rows
abbrev sDrawD : Stmt := top 13
section
variable {P : Program} {w : World} {K : PySem.W.Frag} {mg : Str → Option Value} {base : Heap}
theorem scDrawD : FnScope ["_law_deck", "_law_most", "_law_number"] ["_law_deck", "_law_most"] (defScope sDrawD) := ⟨rfl, rfl, rfl, by decide +kernel, rfl, by decide +kernel, by decide +kernel⟩
theorem ok_drawD {f : Addr} {fd : FuncData} (F : Fun K "_law_draw" "_law_draw" sDrawD f fd) (T : Nm mg) : FnOk P w K mg base CX0 1 f fd ["_law_deck", "_law_most"] spDrawD := by
  refine F.ok scDrawD (fun vs H Q E h => by obtain ⟨p, m, rfl, _⟩ := h; rfl) (fun cdv A outer s H vs Q E hr h => ?_)
  obtain ⟨p, m, rfl, ⟨k0, ns, hp, hl⟩, h0, h1, k⟩ := h
  refine ⟨_, PSl.h (l_cons ⟨(ps_if (pt_cmpR op_eq (pe_callB call_len_seq rfl T.len PySem.boot_len (pa_cons (pv 0) pa_nil)) pe_int (nomark _)) (pss_one (ps_ret pe_int)) pss_nil)⟩
    (l_cons ⟨(ps_set (i := 2) scDrawD.nd rfl (Or.inl rfl) (pe_bm0 PySem.F.plainAttrs_list PySem.F.slot_list_pop PySem.F.type_list_pop mt_pop (pv 0)))⟩
    (l_cons ⟨(ps_cutK (ps_if (PW.pt (pw_and (pt_cmpR op_eq (pe_ix ix_list (pv 0) pe_int (fun _ _ => rfl)) pe_int (nomark _)) (pw_and1 (pt_cmpR op_ne (pe_op op_fdivB (pv 2) (pv 1)) pe_int (nomark _))))) (pss_one (ps_expr (pe_bm PySem.F.plainAttrs_list PySem.F.slot_list_append PySem.F.type_list_append mt_append (pv 0) (pa_cons (pe_op op_fdivB (pv 2) (pv 1)) pa_nil)))) pss_nil))⟩
    (l_one ⟨(ps_ret (pe_op op_mod (pv 2) (pv 1)))⟩)))), ?_⟩
  refine ⟨_, rfl, p, _, rfl, .inl (SqL.of hp), rfl, _, rfl, ?_⟩
  refine ite2 (fun _ => k 0 H (by omega) h0 (Md.refl ⟨k0, ns, hp, hl⟩)) (fun hc => ?_)
  have hne : ns ≠ [] := fun z => hc (by rw [z]; rfl)
  obtain ⟨n', n, rfl⟩ : ∃ n' n, ns = n' ++ [n] := ⟨ns.dropLast, ns.getLast hne, (List.dropLast_concat_getLast hne).symm⟩
  have hp0 : H p = some (.lst ((k0 :: n').map V.int ++ [V.int n])) := by rw [hp, ← List.cons_append, List.map_append]; rfl
  have hl' : n'.length + 1 ≤ 1000 := by rw [List.length_append] at hl; exact hl
  refine ⟨_, rfl, .inl ⟨rfl, _, SqL.of hp0⟩, p, _, V.int n, rfl, rfl, hp0, by rw [List.length_append, List.getElem?_append_right (by simp)]; simp, ?_⟩
  rw [List.dropLast_concat]
  have M1 : Md p H (upd H p (.lst ((k0 :: n').map V.int))) := ⟨fun b o hb e => by rw [upd_ne hb]; exact e, k0, n', upd_same, by omega⟩
  have hp1 : (upd H p (.lst ((k0 :: n').map V.int))) p = some (.lst ((k0 :: n').map V.int)) := upd_same
  generalize upd H p (.lst ((k0 :: n').map V.int)) = H1 at M1 hp1 ⊢
  refine ⟨fun σ' H' => σ' = [some (.ref p), some (.int m), some (.int n)] ∧ Md p H H', ?_, ?_⟩
  rotate_left
  · refine ⟨_, rfl, p, _, _, _, rfl, rfl, SqL.of hp1, atI_nat (j := 0) rfl, rfl, _, rfl, ?_⟩
    refine ite2 (fun _ => ?_) (fun _ => iteC rfl ⟨rfl, M1⟩)
    refine ⟨_, rfl, _, rfl, _, _, rfl, rfl, log_ok h0 h1, rfl, _, rfl, ?_⟩
    refine ite2 (fun _ => ?_) (fun _ => ⟨rfl, M1⟩)
    refine ⟨_, rfl, .inl ⟨rfl, _, SqL.of hp1⟩, _, rfl, _, rfl, _, _, rfl, rfl, log_ok h0 h1, ?_⟩
    refine ⟨p, _, _, rfl, rfl, hp1, (Nat.lt_of_lt_of_le (by rw [List.length_map, List.length_cons]; omega : ((k0 :: n').map V.int).length < 2000) (by decide : 2000 ≤ sizeLine)), rfl, ?_⟩
    refine ⟨fun b o hb e => by rw [upd_ne hb]; exact M1.1 b o hb e, k0, n' ++ [n / m], ?_, by rw [List.length_append]; exact hl'⟩
    rw [upd_same, ← List.cons_append, List.map_append]; rfl
  rintro σ' H2 ⟨rfl, M2⟩
  exact ⟨_, rfl, _, rfl, _, _, rfl, rfl, h0, k _ _ (Int.emod_nonneg _ (by omega)) (Int.emod_lt_of_pos _ h0) M2⟩
end
end HN

/-! spans off a deck. -/
namespace HN
open PySem L2 PyProof.Rows
abbrev sSpanD : Stmt := top 14
section
variable {P : Program} {w : World} {K : PySem.W.Frag} {mg : Str → Option Value} {base : Heap}
theorem scSpanD : FnScope ["_law_deck", "_law_beat", "_law_many", "_law_hidden", "_law_kept", "_law_start", "_law_goal", "_law_width", "_law_least", "_law_weight"] ["_law_deck", "_law_beat", "_law_many", "_law_hidden", "_law_kept"] (defScope sSpanD) := ⟨rfl, rfl, rfl, by decide +kernel, rfl, by decide +kernel, by decide +kernel⟩
theorem ok_spanD {f f1 : Addr} {fd fd1 : FuncData} (F : Fun K "_law_span" "_law_span" sSpanD f fd) (T : Nm mg) (G1 : Fn K mg "_law_draw" sDrawD ["_law_deck", "_law_most"] f1 fd1) : FnOk P w K mg base CX0 2 f fd ["_law_deck", "_law_beat", "_law_many", "_law_hidden", "_law_kept"] spSpanD := by
  have F1 : FnOk P w K mg base CX0 1 f1 fd1 ["_law_deck", "_law_most"] spDrawD := ok_drawD G1.F T
  refine F.ok scSpanD (fun vs H Q E h => by obtain ⟨p, h, b, m, hs, k, rfl, _⟩ := h; rfl) (fun cdv A outer s H vs Q E hr h => ?_)
  obtain ⟨p, h, b, m, hs, kp, rfl, hp, hb1, hb2, hm1, hm2, hh, hlh, k⟩ := h
  refine ⟨_, PSl.h (l_cons ⟨(ps_set (i := 5) scSpanD.nd rfl (Or.inl rfl) (pc1 G1 F1 hr (pa_cons (pv 0) (pa_cons (pv 2) pa_nil))))⟩
    (l_cons ⟨(ps_set (i := 6) scSpanD.nd rfl (Or.inl rfl) (pe_op op_mod (pe_op op_add (pe_op op_add (pv 5) pe_int) (pc1 G1 F1 hr (pa_cons (pv 0) (pa_cons (pe_op op_sub (pv 2) pe_int) pa_nil)))) (pv 2)))⟩
    (l_cons ⟨(ps_set (i := 7) scSpanD.nd rfl (Or.inl rfl) (pe_callB (call_min2 rfl) rfl T.min boot_min (pa_cons (pe_op op_sub (pv 1) pe_int) (pa_cons (PEs.h (k_ix ix_list (k_lstF (a_cons k_int (a_cons ⟨pc1 G1 F1 hr (pa_cons (pv 0) (pa_cons pe_int pa_nil))⟩ (a_cons ⟨pc1 G1 F1 hr (pa_cons (pv 0) (pa_cons (pv 1) pa_nil))⟩ (a_cons (k_op op_sub ⟨pv 1⟩ k_int) a_nil))))) ⟨pc1 G1 F1 hr (pa_cons (pv 0) (pa_cons pe_int pa_nil))⟩ (fun _ _ => rfl))) pa_nil))))⟩
    (l_cons ⟨(ps_set (i := 8) scSpanD.nd rfl (Or.inl rfl) (pc1 G1 F1 hr (pa_cons (pv 0) (pa_cons (pv 1) pa_nil))))⟩
    (l_cons ⟨(ps_cutK (ps_if (pt_val (pv 4)) (pss_one (ps_set (i := 8) scSpanD.nd rfl (Or.inl rfl) (pe_op op_mod (pe_op op_sub (pe_op op_sub (pe_ix ix_tup (pv 3) (pv 6) (fun _ _ => rfl)) (pe_ix ix_tup (pv 3) (pv 5) (fun _ _ => rfl))) (pc1 G1 F1 hr (pa_cons (pv 0) (pa_cons (pe_op op_add (pv 7) pe_int) pa_nil)))) (pv 1)))) pss_nil))⟩
    (l_cons ⟨(ps_set (i := 8) scSpanD.nd rfl (Or.inl rfl) (pe_op op_add (pv 8) (pe_op op_mul (pv 1) (PEs.h (k_ix ix_list (k_lstF (a_cons k_int (a_cons k_int (a_cons k_int (a_cons ⟨pc1 G1 F1 hr (pa_cons (pv 0) (pa_cons (pe_op op_pow pe_int pe_int) pa_nil))⟩ a_nil))))) ⟨pc1 G1 F1 hr (pa_cons (pv 0) (pa_cons pe_int pa_nil))⟩ (fun _ _ => rfl))))))⟩
    (l_cons ⟨(ps_set (i := 9) scSpanD.nd rfl (Or.inl rfl) (PEs.h (k_ix ix_list (k_lstF (a_cons k_int (a_cons k_int (a_cons ⟨pc1 G1 F1 hr (pa_cons (pv 0) (pa_cons pe_int pa_nil))⟩ (a_cons ⟨pc1 G1 F1 hr (pa_cons (pv 0) (pa_cons (pe_op op_add (pe_op op_pow pe_int pe_int) pe_int) pa_nil))⟩ a_nil))))) ⟨pc1 G1 F1 hr (pa_cons (pv 0) (pa_cons pe_int pa_nil))⟩ (fun _ _ => rfl))))⟩
    (l_one ⟨(ps_ret (pe_tupA (pa_cons (pv 5) (pa_cons (pv 6) (pa_cons (pv 8) (pa_cons (pe_op op_add (pv 8) (pv 7)) (pa_cons (pv 9) pa_nil)))))))⟩)))))))), ?_⟩
  -- start and goal
  refine ⟨_, rfl, _, rfl, p, m, rfl, hp, by omega, by omega, fun r1 H1 a1 c1 M1 => ?_⟩
  refine ⟨_, rfl, _, _, rfl, rfl, _, rfl, _, rfl, _, _, rfl, rfl, p, _, rfl, M1.2, by omega, by omega, fun r2 H2 a2 c2 M2 => ?_⟩
  have M2 := M1.trans M2
  refine ⟨_, _, rfl, rfl, _, rfl, _, _, rfl, rfl, (by show (0 : Int) < m; omega), ?_⟩
  obtain ⟨g0, g1, g2⟩ := goal_ok a1 c1 a2 c2
  -- width
  refine ⟨_, rfl, _, _, rfl, rfl, ?_⟩
  refine ⟨_, rfl, p, 4, rfl, M2.2, by decide, by decide, fun r7 H7 a7 c7 M7 => ?_⟩
  have M7 := M2.trans M7
  refine ⟨_, rfl, _, rfl, p, b, rfl, M7.2, by omega, by omega, fun r8 H8 a8 c8 M8 => ?_⟩
  have M8 := M7.trans M8
  refine ⟨_, rfl, _, _, rfl, rfl, (by show 4 ≤ sizeLine; decide), fun q9 hq9 => ?_⟩
  have nq9 := M8.2.ne hq9
  have S9 : Same H8 (upd H8 q9 (.lst [.int 0, .int r7, .int r8, .int (b - 1)])) := Same.put (Same.refl H8) hq9
  have h9 : (upd H8 q9 (.lst [.int 0, .int r7, .int r8, .int (b - 1)])) q9 = some (.lst [.int 0, .int r7, .int r8, .int (b - 1)]) := upd_same
  have M9 := M8.then S9
  refine ⟨_, rfl, p, 4, rfl, M9.2, by decide, by decide, fun rA HA aA cA MA => ?_⟩
  have hA := MA.at h9 nq9
  have MA := M9.trans MA
  clear M9 S9 h9
  obtain ⟨vA, eA, mA⟩ := atI_in (xs := [V.int 0, V.int r7, V.int r8, V.int (b - 1)]) aA cA
  obtain ⟨w0, rfl, w00⟩ : ∃ i, vA = V.int i ∧ 0 ≤ i := by
    simp only [List.mem_cons, List.not_mem_nil, or_false] at mA
    rcases mA with rfl | rfl | rfl | rfl
    · exact ⟨_, rfl, by decide⟩
    · exact ⟨_, rfl, a7⟩
    · exact ⟨_, rfl, a8⟩
    · exact ⟨_, rfl, by omega⟩
  refine ⟨q9, _, _, _, rfl, rfl, SqL.of hA, eA, _, _, rfl, ?_⟩
  obtain ⟨wd, hwd, wd0, wd1⟩ : ∃ wd, wd = (if w0 < b - 1 then w0 else b - 1) ∧ 0 ≤ wd ∧ wd < b := ⟨_, rfl, by split <;> omega, by split <;> omega⟩
  -- least
  refine ⟨_, rfl, _, rfl, p, b, rfl, MA.2, by omega, by omega, fun rB HB aB cB MB => ?_⟩
  have MB := MA.trans MB
  show ∃ _, _
  rw [show (V.int (if w0 < b - 1 then w0 else b - 1)) = V.int wd from congrArg V.int hwd.symm]
  refine ⟨fun σ' H' => Md p H H' ∧ ∃ l, 0 ≤ l ∧ l < b ∧ σ' = [some (.ref p), some (.int b), some (.int m), some (.ref h), some (.bl kp), some (.int r1), some (.int ((r1 + 1 + r2) % m)), some (.int wd), some (.int l), none], ?_, ?_⟩
  rotate_left
  · refine ⟨_, rfl, _, rfl, ?_⟩
    refine ite2 (fun _ => ?_) (fun _ => ⟨MB, rB, aB, cB, rfl⟩)
    have hhB : HB h = some (.tup (hs.map V.int)) := Md.tupK hp MB _ _ hh
    obtain ⟨vg, eg, mg'⟩ := atI_in (xs := hs.map V.int) (r := (r1 + 1 + r2) % m) g0 (by rw [List.length_map]; omega)
    obtain ⟨ig, _, rfl⟩ := List.mem_map.mp mg'
    obtain ⟨vs, es, ms⟩ := atI_in (xs := hs.map V.int) (r := r1) a1 (by rw [List.length_map]; omega)
    obtain ⟨is, _, rfl⟩ := List.mem_map.mp ms
    refine ⟨_, rfl, _, rfl, h, _, _, _, rfl, rfl, SqT.of hhB, eg, _, rfl, _, rfl, h, _, _, _, rfl, rfl, SqT.of hhB, es, _, _, rfl, rfl, _, rfl, _, rfl, _, _, rfl, rfl, p, _, rfl, MB.2, by omega, by omega, fun rC HC aC cC MC => ⟨_, _, rfl, rfl, _, rfl, _, _, rfl, rfl, (by show (0 : Int) < b; omega), ?_⟩⟩
    exact ⟨MB.trans MC, _, Int.emod_nonneg _ (by omega), Int.emod_lt_of_pos _ (by omega), rfl⟩
  rintro σ' HC ⟨MC, l, l0, l1, rfl⟩
  refine ⟨_, rfl, _, rfl, _, rfl, _, _, rfl, rfl, ⟨by decide, by decide, by decide⟩, p, _, rfl, MC.2, by decide, by decide, fun rD HD aD cD MD => ⟨(by show 4 ≤ sizeLine; decide), fun qE hqE => ?_⟩⟩
  have MD := MC.trans MD
  have cD : rD < 10 ^ 9 := cD
  have nqE := MD.2.ne hqE
  have SE : Same HD (upd HD qE (.lst [.int 0, .int 0, .int 1, .int rD])) := Same.put (Same.refl HD) hqE
  have hE : (upd HD qE (.lst [.int 0, .int 0, .int 1, .int rD])) qE = some (.lst [.int 0, .int 0, .int 1, .int rD]) := upd_same
  have ME := MD.then SE
  refine ⟨_, rfl, p, 4, rfl, ME.2, by decide, by decide, fun rF HF aF cF MF => ?_⟩
  have hF := MF.at hE nqE
  have MF := ME.trans MF
  clear ME SE hE
  obtain ⟨vF, eF, mF⟩ := atI_in (xs := [V.int 0, V.int 0, V.int 1, V.int rD]) aF cF
  obtain ⟨n, rfl, n0, n1⟩ : ∃ i, vF = V.int i ∧ 0 ≤ i ∧ i ≤ 10 ^ 9 := by
    simp only [List.mem_cons, List.not_mem_nil, or_false] at mF
    rcases mF with rfl | rfl | rfl | rfl
    · exact ⟨_, rfl, by decide, by decide⟩
    · exact ⟨_, rfl, by decide, by decide⟩
    · exact ⟨_, rfl, by decide, by decide⟩
    · exact ⟨_, rfl, by omega, by omega⟩
  refine ⟨qE, _, _, _, rfl, rfl, SqL.of hF, eF, _, _, rfl, rfl, .inr ⟨by omega, by omega⟩, _, _, rfl, rfl, ?_⟩
  have bn0 : 0 ≤ b * n := Int.mul_nonneg (by omega) n0
  have bn1 : b * n ≤ 10 ^ 33 * 10 ^ 9 := Int.mul_le_mul hb2 n1 n0 (by decide)
  -- weight
  refine ⟨_, rfl, p, 10, rfl, MF.2, by decide, by decide, fun rH HH aH cH MH => ?_⟩
  have MH := MF.trans MH
  refine ⟨_, rfl, _, _, rfl, rfl, ⟨by decide, by decide, by decide⟩, _, _, rfl, rfl, p, _, rfl, MH.2, by decide, by decide, fun rI HI aI cI MI => ⟨(by show 4 ≤ sizeLine; decide), fun qJ hqJ => ?_⟩⟩
  have MI := MH.trans MI
  have cI : rI < 10 ^ 12 + 1 := cI
  have nqJ := MI.2.ne hqJ
  have SJ : Same HI (upd HI qJ (.lst [.int 0, .int 1, .int rH, .int rI])) := Same.put (Same.refl HI) hqJ
  have hJ : (upd HI qJ (.lst [.int 0, .int 1, .int rH, .int rI])) qJ = some (.lst [.int 0, .int 1, .int rH, .int rI]) := upd_same
  have MJ := MI.then SJ
  refine ⟨_, rfl, p, 4, rfl, MJ.2, by decide, by decide, fun rK HK aK cK MK => ?_⟩
  have hK := MK.at hJ nqJ
  have MK := MJ.trans MK
  clear MJ SJ hJ
  obtain ⟨vK, eK, mK⟩ := atI_in (xs := [V.int 0, V.int 1, V.int rH, V.int rI]) aK cK
  obtain ⟨wt, rfl, t0, t1⟩ : ∃ i, vK = V.int i ∧ 0 ≤ i ∧ i ≤ 1000000000000 := by
    simp only [List.mem_cons, List.not_mem_nil, or_false] at mK
    rcases mK with rfl | rfl | rfl | rfl
    · exact ⟨_, rfl, by decide, by decide⟩
    · exact ⟨_, rfl, by decide, by decide⟩
    · exact ⟨_, rfl, by omega, by omega⟩
    · exact ⟨_, rfl, by omega, by omega⟩
  refine ⟨qJ, _, _, _, rfl, rfl, SqL.of hK, eK, ?_⟩
  refine ⟨_, rfl, _, rfl, _, rfl, _, rfl, _, rfl, _, _, rfl, rfl, _, rfl, (by show 5 ≤ sizeLine; decide), fun t HL SL hL => ?_⟩
  exact k t ⟨r1, (r1 + 1 + r2) % m, l + b * n, l + b * n + wd, wt⟩ HL (MK.then SL) hL ⟨a1, c1, g0, g1, g2, by show 0 ≤ l + b * n; omega, by show l + b * n ≤ l + b * n + wd; omega, by show l + b * n + wd < l + b * n + b; omega, by show l + b * n + wd < 10 ^ 60; omega, t0, t1⟩
end
end HN

/-! nets off a deck. -/
namespace HN
open PySem L2 PyProof.Rows
abbrev sNetD : Stmt := top 15
section
variable {P : Program} {w : World} {K : PySem.W.Frag} {mg : Str → Option Value} {base : Heap}
theorem scNetD : FnScope ["_law_deck", "_law_most", "_law_beats", "_law_size", "_law_great", "_law_many", "_law_beat", "_law_hidden", "_law_kept", "_law_spans", "_law_k"] ["_law_deck", "_law_most", "_law_beats", "_law_size", "_law_great"] (defScope sNetD) := ⟨rfl, rfl, rfl, by decide +kernel, rfl, by decide +kernel, by decide +kernel⟩
theorem ok_netD {f f1 f2 : Addr} {fd fd1 fd2 : FuncData} (F : Fun K "_law_net" "_law_net" sNetD f fd) (T : Nm mg) (T2 : Nt mg) (G1 : Fn K mg "_law_draw" sDrawD ["_law_deck", "_law_most"] f1 fd1) (G2 : Fn K mg "_law_span" sSpanD ["_law_deck", "_law_beat", "_law_many", "_law_hidden", "_law_kept"] f2 fd2) : FnOk P w K mg base CX0 3 f fd ["_law_deck", "_law_most", "_law_beats", "_law_size", "_law_great"] spNetD := by
  have F1 : FnOk P w K mg base CX0 1 f1 fd1 ["_law_deck", "_law_most"] spDrawD := ok_drawD G1.F T
  have F2 : FnOk P w K mg base CX0 2 f2 fd2 ["_law_deck", "_law_beat", "_law_many", "_law_hidden", "_law_kept"] spSpanD := ok_spanD G2.F T G1
  refine F.ok scNetD (fun vs H Q E h => by obtain ⟨p, a, c, s, g, rfl, _⟩ := h; rfl) (fun cdv A outer s H vs Q E hr h => ?_)
  obtain ⟨p, a, c, s0, g, rfl, hp, a1, a2, c1, c2, s1, s2, g1, g2, k⟩ := h
  have hr1 : Room 1 _ := hr.mono (by decide)
  refine ⟨_, PSl.h (l_cons ⟨(ps_set (i := 5) scNetD.nd rfl (Or.inl rfl) (pe_op op_add pe_int (pc1 G1 F1 hr1 (pa_cons (pv 0) (pa_cons (pv 1) pa_nil)))))⟩
    (l_cons ⟨(ps_set (i := 6) scNetD.nd rfl (Or.inr rfl) (pe_op op_add pe_int (pc1 G1 F1 hr1 (pa_cons (pv 0) (pa_cons (pv 2) pa_nil)))))⟩
    (l_cons ⟨(ps_cutK (ps_if (pt_cmpR op_eq (pc1 G1 F1 hr1 (pa_cons (pv 0) (pa_cons pe_int pa_nil))) pe_int (nomark _)) (pss_one (ps_set (i := 6) scNetD.nd rfl (Or.inr rfl) (pe_op op_mul (pv 6) (pe_op op_add pe_int (pc1 G1 F1 hr1 (pa_cons (pv 0) (pa_cons (pv 4) pa_nil))))))) pss_nil))⟩
    (l_cons ⟨(ps_set (i := 7) scNetD.nd rfl (Or.inl rfl) (pe_callTy call_tupA rfl T.ttup boot_tuple (pa_cons (pe_comp (fr := ["_law_deck", "_law_beat"]) (js := [0, 6]) rfl (pi_range1 rfl T2.range (pa_cons (pv 5) pa_nil)) (by decide +kernel) rfl (by decide +kernel) rfl (by show ∀ y : Str × NameKind, y ∈ _ → y.2 = NameKind.free → List.lookup y.1 (defScope sNetD).names = some NameKind.cell; decide +kernel) (by decide +kernel) rfl (by decide +kernel) (fun _ _ _ _ _ => ⟨(pc1 G1 F1 hr1 (pa_cons (pv 1) (pa_cons (pv 2) pa_nil))), pts_nil⟩)) pa_nil)))⟩
    (l_cons ⟨(ps_set (i := 8) scNetD.nd rfl (Or.inl rfl) (pe_cmpR op_eq (pc1 G1 F1 hr1 (pa_cons (pv 0) (pa_cons pe_int pa_nil))) pe_int (nomark _)))⟩
    (l_cons ⟨(ps_set (i := 9) scNetD.nd rfl (Or.inl rfl) (pe_lst pa_nil))⟩
    (l_cons ⟨(ps_cutK (ps_if (pt_cmpR op_gt (pv 5) pe_int (nomark _)) (pss_one (ps_for PassesOwn.never rfl (pi_range1 rfl T2.range (pa_cons (pc1 G1 F1 hr1 (pa_cons (pv 0) (pa_cons (pe_op op_add (pv 3) pe_int) pa_nil))) pa_nil)) (pg_name (i := 10) scNetD.nd rfl (Or.inl rfl)) (pss_one (ps_expr (pe_bm PySem.F.plainAttrs_list PySem.F.slot_list_append PySem.F.type_list_append mt_append (pv 9) (pa_cons (pc1 G2 F2 hr (pa_cons (pv 0) (pa_cons (pv 6) (pa_cons (pv 5) (pa_cons (pv 7) (pa_cons (pv 8) pa_nil)))))) pa_nil)))))) pss_nil))⟩
    (l_one ⟨(ps_ret (pe_tupA (pa_cons (pe_tupA (pa_cons (pv 6) (pa_cons (pv 5) (pa_cons (pe_callTy call_tupA rfl T.ttup boot_tuple (pa_cons (pv 9) pa_nil)) pa_nil)))) (pa_cons (pv 7) pa_nil))))⟩)))))))), ?_⟩
  refine ⟨_, rfl, _, rfl, p, a, rfl, hp, by omega, by omega, fun r1 H1 r10 r11 M1 => ⟨_, _, rfl, rfl, ?_⟩⟩
  refine ⟨_, rfl, _, rfl, p, c, rfl, M1.2, by omega, by omega, fun r2 H2 r20 r21 M2 => ⟨_, _, rfl, rfl, ?_⟩⟩
  have M2 := M1.trans M2
  refine ⟨fun σ' H' => Md p H H' ∧ ∃ b, 1 ≤ b ∧ b ≤ 10 ^ 33 ∧ σ' = [some (.ref p), some (.int a), some (.int c), some (.int s0), some (.int g), some (.int (1 + r1)), some (.int b), none, none, none, none], ?_, ?_⟩
  rotate_left
  · refine ⟨_, rfl, p, 5, rfl, M2.2, by decide, by decide, fun r3 H3 r30 r31 M3 => ⟨rfl, _, rfl, ?_⟩⟩
    have M3 := M2.trans M3
    refine ite2 (fun _ => ?_) (fun _ => ⟨M3, 1 + r2, by omega, by omega, rfl⟩)
    refine ⟨_, rfl, _, rfl, _, rfl, p, g, rfl, M3.2, by omega, by omega, fun r4 H4 r40 r41 M4 => ⟨_, _, rfl, rfl, _, _, rfl, rfl, .inl ⟨by omega, by omega⟩, ?_⟩⟩
    refine ⟨M3.trans M4, _, ?_, ?_, rfl⟩
    · have : 1 * 1 ≤ (1 + r2) * (1 + r4) := Int.mul_le_mul (by omega) (by omega) (by decide) (by omega)
      omega
    · have : (1 + r2) * (1 + r4) ≤ 100 * (10 ^ 30) := Int.mul_le_mul (by omega) (by omega) (by omega) (by decide)
      omega
  rintro σ' H3 ⟨M3, b, b1, b2, rfl⟩
  -- the hidden table
  refine ⟨_, rfl, 1 + r1, rfl, by omega, by omega, ?_⟩
  refine comp_range (n := (1 + r1).toNat) (fun i zs H4 => Md p H H4 ∧ ∃ hs : List Int, zs = hs.map V.int ∧ hs.length = i ∧ ∀ x ∈ hs, 0 ≤ x ∧ x < b) ⟨M3, [], rfl, rfl, fun _ h => absurd h (by simp)⟩ (fun i zs H4 _ ⟨_, hs, e, hl, _⟩ => by rw [e, List.length_map, hl]; exact Nat.le_refl _) (small_le (by omega)) (fun i zs H4 hi ⟨M4, hs, e4, hl4, all4⟩ => ?_) (fun zs H4 ⟨M4, hs, e4, hl4, all4⟩ D hD => ?_)
  · refine tNoIf_go ?_
    refine ⟨_, rfl, _, rfl, p, b, rfl, M4.2, by omega, by omega, fun r5 H5 r50 r51 M5 => ⟨M4.trans M5, hs ++ [r5], by rw [e4, List.map_append]; rfl, by rw [List.length_append, hl4]; rfl, fun x hx => ?_⟩⟩
    rcases List.mem_append.mp hx with hx | hx
    · exact all4 x hx
    · rw [List.mem_singleton.mp hx]; exact ⟨r50, r51⟩
  subst e4
  have S5 := Same.put (o := .lst (hs.map V.int)) (Same.refl H4) hD
  have hD5 : (upd H4 D (.lst (hs.map V.int))) D = some (.lst (hs.map V.int)) := upd_same
  generalize upd H4 D (.lst (hs.map V.int)) = H5 at S5 hD5 ⊢
  refine ⟨D, _, rfl, SqL.of hD5, fun h H6 S6 h6 => ?_⟩
  have M6 := M4.then (S5.trans S6)
  clear S5 S6 hD5 hD M4
  have hlh : (hs.length : Int) = 1 + r1 := by omega
  refine ⟨_, rfl, p, 2, rfl, M6.2, by decide, by decide, fun r7 H7 _ _ M7 => ⟨rfl, ?_⟩⟩
  have h7 := Md.tupK M6.2 M7 _ _ h6
  have M7 := M6.trans M7
  clear M6 h6
  obtain ⟨kp, hkp⟩ : ∃ kp : Bool, kp = decide (V.int r7 = V.int 1) := ⟨_, rfl⟩
  -- the spans
  refine ⟨Nat.zero_le _, fun Ls hLs => ?_⟩
  have hLsp := M7.2.ne hLs
  have hLsH : H Ls = none := by
    cases z : H Ls with
    | none => rfl
    | some o => rw [M7.1 Ls o hLsp z] at hLs; cases hLs
  have S8 : Same H7 (upd H7 Ls (.lst [])) := Same.put (Same.refl H7) hLs
  have hLs8 : (upd H7 Ls (.lst [])) Ls = some (.lst []) := upd_same
  generalize upd H7 Ls (.lst []) = H8 at S8 hLs8 ⊢
  have M8 := M7.then S8
  have h8 := S8 _ _ h7
  clear M7 h7 S8
  refine ⟨fun σ' H' => Md p H H' ∧ H' h = some (.tup (hs.map V.int)) ∧ ∃ (v8 vk : Option V) (zs : List V) (sp : List Sn), σ' = [some (.ref p), some (.int a), some (.int c), some (.int s0), some (.int g), some (.int (1 + r1)), some (.int b), some (.ref h), v8, some (.ref Ls), vk] ∧ H' Ls = some (.lst zs) ∧ IsDs H' zs (rowsD Sn.row sp) ∧ sp.length ≤ 40 ∧ ∀ z ∈ sp, SnOk b (1 + r1) z, ?_, ?_⟩
  rotate_left
  · refine ⟨_, rfl, _, _, rfl, rfl, _, rfl, ?_⟩
    refine ite2 (fun hm => ?_) (fun _ => ⟨M8, h8, _, none, [], [], rfl, hLs8, .nil, by simp, fun _ h => absurd h (by simp)⟩)
    have hm : 1 + r1 > 1 := of_decide_eq_true hm
    refine ⟨_, rfl, _, rfl, _, _, rfl, rfl, p, _, rfl, M8.2, by omega, by omega, fun r9 H9 r90 r91 M9 => ⟨r9, rfl, by omega, by omega, ?_⟩⟩
    have h9 := Md.tupK M8.2 M9 _ _ h8
    have hLs9 := M9.at hLs8 hLsp
    have M9 := M8.trans M9
    refine for_range (n := r9.toNat) (fun i σ H' => Md p H H' ∧ H' h = some (.tup (hs.map V.int)) ∧ ∃ (vk : Option V) (zs : List V) (sp : List Sn), σ = [some (.ref p), some (.int a), some (.int c), some (.int s0), some (.int g), some (.int (1 + r1)), some (.int b), some (.ref h), some (.bl (decide (V.int r7 = V.int 1))), some (.ref Ls), vk] ∧ H' Ls = some (.lst zs) ∧ IsDs H' zs (rowsD Sn.row sp) ∧ sp.length = i ∧ ∀ z ∈ sp, SnOk b (1 + r1) z) ⟨M9, h9, none, [], [], rfl, hLs9, .nil, rfl, fun _ h => absurd h (by simp)⟩ ?_ ?_
    · rintro i σ HA hi ⟨MA, hA, vk, zs, sp, rfl, hLsA, dA, lA, allA⟩
      refine ⟨_, rfl, .inl ⟨rfl, _, SqL.of hLsA⟩, _, rfl, _, rfl, _, rfl, _, rfl, _, rfl, p, h, b, 1 + r1, hs, _, rfl, MA.2, b1, b2, by omega, by omega, hA, hlh, fun t z HB MB hB okB => ?_⟩
      have KB := Md.tupK MA.2 MB
      have hLsB := MB.at hLsA hLsp
      have MB := MA.trans MB
      have lz : zs.length = sp.length := by rw [dA.length, List.length_map]
      refine ⟨Ls, zs, _, rfl, rfl, hLsB, (Nat.lt_of_lt_of_le (by omega : zs.length < 1000) (by decide : 1000 ≤ sizeLine)), ?_⟩
      have KC : TupK HB (upd HB Ls (.lst (zs ++ [.ref t]))) := tupK_upd hLsB
      refine ⟨⟨fun q o hq e => ?_, ?_⟩, KC _ _ (KB _ _ hA), _, zs ++ [.ref t], sp ++ [z], rfl, upd_same, ?_, by rw [List.length_append, lA]; rfl, fun z' hz' => ?_⟩
      · rw [upd_ne (fun z => by rw [z, hLsH] at e; cases e)]
        exact MB.1 q o hq e
      · obtain ⟨k1, n1, e1, e2⟩ := MB.2
        exact ⟨k1, n1, by rw [upd_ne hLsp.symm]; exact e1, e2⟩
      · unfold rowsD
        rw [List.map_append]
        exact (rows_keep (KB.trans KC) dA).append (.cons (.tup (KC _ _ hB) (IsDs.ints z.row)) .nil)
      · rcases List.mem_append.mp hz' with hz' | hz'
        · exact allA z' hz'
        · rw [List.mem_singleton.mp hz']; exact okB
    · rintro σ HA ⟨MA, hA, vk, zs, sp, rfl, hLsA, dA, lA, allA⟩
      exact ⟨MA, hA, _, vk, zs, sp, rfl, hLsA, dA, by omega, allA⟩
  rintro σ' HA ⟨MA, hA, v8, vk, zs, sp, rfl, hLsA, dA, lA, allA⟩
  refine ⟨_, rfl, _, rfl, _, rfl, Ls, _, rfl, SqL.of hLsA, fun qB HB SB hB => ⟨(by show 3 ≤ sizeLine; decide), fun tC HC SC hC => ⟨_, rfl, (by show 2 ≤ sizeLine; decide), fun tD HD SD hD' => ?_⟩⟩⟩
  have SBD := SB.trans (SC.trans SD)
  exact k tD (.ref tC) h b (1 + r1) sp hs HD (MA.then SBD) hD' (.tup (SD _ _ hC) (.cons (.int b) (.cons (.int _) (.cons (.tup (SD _ _ (SC _ _ hB)) (dA.same SBD)) .nil)))) ⟨b1, by omega, by omega, by omega, lA, allA⟩ b2 (SBD _ _ hA) hlh all4
end
end HN

/-! an order off a deck. -/
namespace HN
open PySem L2 PyProof.Rows
abbrev sOrderL : Stmt := top 21
theorem map_erase {α β : Type} (f : α → β) : ∀ (l : List α) (i : Nat), (l.map f).eraseIdx i = (l.eraseIdx i).map f
  | [], _ => rfl
  | _ :: _, 0 => rfl
  | a :: l, i + 1 => by
    show f a :: (l.map f).eraseIdx i = f a :: (l.eraseIdx i).map f
    rw [map_erase f l i]
section
variable {P : Program} {w : World} {K : PySem.W.Frag} {mg : Str → Option Value} {base : Heap}
theorem scOrderL : FnScope ["_law_deck", "_law_many", "_law_left", "_law_order_here", "_law_k"] ["_law_deck", "_law_many"] (defScope sOrderL) := ⟨rfl, rfl, rfl, by decide +kernel, rfl, by decide +kernel, by decide +kernel⟩
theorem ok_orderL {f f1 : Addr} {fd fd1 : FuncData} (F : Fun K "_law_order" "_law_order" sOrderL f fd) (T : Nm mg) (T2 : Nt mg) (G1 : Fn K mg "_law_draw" sDrawD ["_law_deck", "_law_most"] f1 fd1) : FnOk P w K mg base CX0 2 f fd ["_law_deck", "_law_many"] spOrderL := by
  have F1 : FnOk P w K mg base CX0 1 f1 fd1 ["_law_deck", "_law_most"] spDrawD := ok_drawD G1.F T
  refine F.ok scOrderL (fun vs H Q E h => by obtain ⟨p, n, rfl, _⟩ := h; rfl) (fun cdv A outer s H vs Q E hr h => ?_)
  obtain ⟨p, n, rfl, hp, hn, k⟩ := h
  refine ⟨_, PSl.h (l_cons ⟨(ps_set (i := 2) scOrderL.nd rfl (Or.inl rfl) (pe_callTy (call_listR rfl) rfl T2.tlist boot_list (pa_cons (pe_callTy call_rng1 rfl T2.range boot_range (pa_cons (pv 1) pa_nil)) pa_nil)))⟩
    (l_cons ⟨(ps_set (i := 3) scOrderL.nd rfl (Or.inl rfl) (pe_lst pa_nil))⟩
    (l_cons ⟨(ps_for PassesOwn.never rfl (pi_range1 rfl T2.range (pa_cons (pv 1) pa_nil)) (pg_name (i := 4) scOrderL.nd rfl (Or.inl rfl)) (pss_one (ps_expr (pe_bm PySem.F.plainAttrs_list PySem.F.slot_list_append PySem.F.type_list_append mt_append (pv 3) (pa_cons (pe_bm PySem.F.plainAttrs_list PySem.F.slot_list_pop PySem.F.type_list_pop mt_popAt (pv 2) (pa_cons (pc1 G1 F1 hr (pa_cons (pv 0) (pa_cons (pe_callB call_len_seq rfl T.len PySem.boot_len (pa_cons (pv 2) pa_nil)) pa_nil))) pa_nil)) pa_nil)))))⟩
    (l_one ⟨(ps_ret (pe_callTy call_tupA rfl T.ttup boot_tuple (pa_cons (pv 3) pa_nil)))⟩)))), ?_⟩
  refine ⟨_, rfl, (n : Int), rfl, fun q1 H1 S1 h1 => ?_⟩
  refine ⟨q1, n, rfl, h1, by omega, fun Lf hLf => ?_⟩
  have nLf : Lf ≠ p := (hp.same S1).ne hLf
  have fLf : H Lf = none := S1.free hLf
  have S2 : Same H (upd H1 Lf (.lst ((List.range n).map fun (k : Nat) => V.int (k : Int)))) := S1.put hLf
  have h2 : (upd H1 Lf (.lst ((List.range n).map fun (k : Nat) => V.int (k : Int)))) Lf = some (.lst ((rgI n).map V.int)) := by
    rw [upd_same]; unfold rgI; rw [List.map_map]; rfl
  generalize upd H1 Lf (.lst ((List.range n).map fun (k : Nat) => V.int (k : Int))) = H2 at S2 h2 ⊢
  refine ⟨Nat.zero_le _, fun Lo hLo => ?_⟩
  have nLo : Lo ≠ p := (hp.same S2).ne hLo
  have fLo : H Lo = none := S2.free hLo
  have nLL : Lo ≠ Lf := fun z => by rw [z, h2] at hLo; cases hLo
  have S3 : Same H (upd H2 Lo (.lst [])) := S2.put hLo
  have h3 : (upd H2 Lo (.lst [])) Lo = some (.lst []) := upd_same
  have h3f : (upd H2 Lo (.lst [])) Lf = some (.lst ((rgI n).map V.int)) := by rw [upd_ne nLL.symm]; exact h2
  generalize upd H2 Lo (.lst []) = H3 at S3 h3 h3f ⊢
  have M3 : Md p H H3 := ⟨fun b o _ e => S3 _ _ e, hp.same S3⟩
  refine ⟨_, rfl, (n : Int), rfl, by omega, by omega, ?_⟩
  refine for_range (n := ((n : Int)).toNat) (fun i σ H4 => Md p H H4 ∧ ∃ (acc left : List Int) (vk : Option V), σ = [some (.ref p), some (.int (n : Int)), some (.ref Lf), some (.ref Lo), vk] ∧ H4 Lf = some (.lst (left.map V.int)) ∧ H4 Lo = some (.lst (acc.map V.int)) ∧ (acc ++ left).Perm (rgI n) ∧ acc.length = i ∧ left.length = n - i) ⟨M3, [], rgI n, none, rfl, h3f, h3, List.Perm.refl _, rfl, rgI_len n⟩ ?_ ?_
  · rintro i σ H4 hi ⟨M4, acc, left, vk, rfl, hF, hO, hP, hA, hB⟩
    have hi' : i < n := by omega
    refine ⟨_, rfl, .inl ⟨rfl, _, SqL.of hO⟩, _, rfl, .inl ⟨rfl, _, SqL.of hF⟩, _, rfl, _, rfl, Lf, _, rfl, .inl (SqL.of hF), p, _, rfl, M4.2, by rw [List.length_map]; omega, by rw [List.length_map]; omega, fun r H5 r0 r1 M5 => ?_⟩
    rw [List.length_map] at r1
    have hF5 := M5.at hF nLf
    have hO5 := M5.at hO nLo
    have M5 := M4.trans M5
    have hr5 : r.toNat < left.length := by omega
    refine ⟨Lf, _, r, r.toNat, V.int left[r.toNat], rfl, rfl, hF5, by omega, by omega, PySem.seqIndex_of r0 (by rw [List.length_map]; exact r1), by rw [List.getElem?_map, List.getElem?_eq_getElem hr5]; rfl, ?_⟩
    refine ⟨Lo, acc.map V.int, _, rfl, rfl, by rw [upd_ne nLL]; exact hO5, (Nat.lt_of_lt_of_le (by rw [List.length_map]; omega : (acc.map V.int).length < 1000) (by decide : 1000 ≤ sizeLine)), ?_⟩
    refine ⟨⟨fun q o hq e => ?_, ?_⟩, acc ++ [left[r.toNat]], left.eraseIdx r.toNat, _, rfl, ?_, ?_, ?_, ?_, ?_⟩
    · rw [upd_ne (fun z => by rw [z, fLo] at e; cases e), upd_ne (fun z => by rw [z, fLf] at e; cases e)]
      exact M5.1 q o hq e
    · obtain ⟨k1, n1, e1, e2⟩ := M5.2
      exact ⟨k1, n1, by rw [upd_ne nLo.symm, upd_ne nLf.symm]; exact e1, e2⟩
    · rw [upd_ne nLL.symm, upd_same, map_erase]
    · rw [upd_same, List.map_append]; rfl
    · rw [List.append_assoc]
      exact ((pop_perm left r.toNat _ (List.getElem?_eq_getElem hr5)).append_left acc).trans hP
    · rw [List.length_append, hA]; rfl
    · rw [List.length_eraseIdx, if_pos hr5]; omega
  · rintro σ H4 ⟨M4, acc, left, vk, rfl, hF, hO, hP, hA, hB⟩
    have e0 : left = [] := List.length_eq_zero_iff.mp (by omega)
    subst e0
    rw [List.append_nil] at hP
    exact ⟨_, rfl, Lo, _, rfl, SqL.of hO, fun u H5 S5 h5 => k u acc H5 (M4.then S5) h5 hP⟩
end
end HN

/-! whole numbers. -/
namespace HN
open PySem L2 PyProof.Rows
abbrev sWhole : Stmt := top 4
section
variable {P : Program} {w : World} {K : PySem.W.Frag} {mg : Str → Option Value} {base : Heap}
theorem scWhole : FnScope ["thing"] ["thing"] (defScope sWhole) := ⟨rfl, rfl, rfl, by decide +kernel, rfl, by decide +kernel, by decide +kernel⟩
theorem ok_whole {f : Addr} {fd : FuncData} (F : Fun K "is_whole" "is_whole" sWhole f fd) (T : Nm mg) : FnOk P w K mg base CX0 1 f fd ["thing"] spWhole := by
  refine F.ok scWhole (fun vs H Q E h => by obtain ⟨v, rfl, _⟩ := h; rfl) (fun cdv A outer s H vs Q E hr h => ?_)
  obtain ⟨v, rfl, ⟨S, hS⟩, k⟩ := h
  refine ⟨_, pss_one (ps_ret (pe_and (pe_isInt T (pv 0)) (pe_one (pe_not (pe_isBool T (pv 0)))))), ?_⟩
  refine ⟨_, rfl, _, _, rfl, hS, _, rfl, ?_⟩
  refine ite2 (fun hc => ?_) (fun hc => ?_)
  · refine ⟨_, rfl, _, _, rfl, hS, _, rfl, ?_⟩
    rw [sort_int hS hc]; exact k
  · rw [← sort_noInt hS hc]; exact k

end
end HN

/-! a span named anew. -/
namespace HN
open PySem L2 PyProof.Rows
abbrev sNamed : Stmt := top 6
section
variable {P : Program} {w : World} {K : PySem.W.Frag} {mg : Str → Option Value} {base : Heap}
theorem scNamed : FnScope ["span", "names"] ["span", "names"] (defScope sNamed) := ⟨rfl, rfl, rfl, by decide +kernel, rfl, by decide +kernel, by decide +kernel⟩
theorem ok_named {f : Addr} {fd : FuncData} (F : Fun K "span_named" "span_named" sNamed f fd) : FnOk P w K mg base CX0 1 f fd ["span", "names"] spNamed := by
  refine F.ok scNamed (fun vs H Q E h => by obtain ⟨q, L, x, js, rfl, _⟩ := h; rfl) (fun cdv A outer s H vs Q E hr h => ?_)
  obtain ⟨q, L, x, js, rfl, hq, hL, s0, s1, g0, g1, k⟩ := h
  refine ⟨_, PSl.h (l_one ⟨(ps_ret (pe_tupA (pa_cons (pe_ix ix_list (pv 1) (pe_ix ix_tup (pv 0) pe_int (fun _ _ => rfl)) (fun _ _ => rfl)) (pa_cons (pe_ix ix_list (pv 1) (pe_ix ix_tup (pv 0) pe_int (fun _ _ => rfl)) (fun _ _ => rfl)) (pa_cons (pe_ix ix_tup (pv 0) pe_int (fun _ _ => rfl)) (pa_cons (pe_ix ix_tup (pv 0) pe_int (fun _ _ => rfl)) (pa_cons (pe_ix ix_tup (pv 0) pe_int (fun _ _ => rfl)) pa_nil)))))))⟩), ?_⟩
  exact ⟨_, rfl, _, rfl, q, _, _, _, rfl, rfl, SqT.of hq, atI_nat (j := 0) rfl, L, _, _, _, rfl, rfl, SqL.of hL, tm_at s0 s1, _, rfl, _, rfl, q, _, _, _, rfl, rfl, SqT.of hq, atI_nat (j := 1) rfl, L, _, _, _, rfl, rfl, SqL.of hL, tm_at g0 g1, _, rfl, q, _, _, _, rfl, rfl, SqT.of hq, atI_nat (j := 2) rfl, _, rfl, q, _, _, _, rfl, rfl, SqT.of hq, atI_nat (j := 3) rfl, _, rfl, q, _, _, _, rfl, rfl, SqT.of hq, atI_nat (j := 4) rfl, (by show 5 ≤ sizeLine; decide), fun p H' S h => k p H' S h⟩
end
end HN

/-! orders. -/
namespace HN
open PySem L2 PyProof.Rows
abbrev sIsOrder : Stmt := top 7
abbrev sCheckO : Stmt := top 8
abbrev sNamedA : Stmt := top 9
abbrev sTabNam : Stmt := top 10
theorem allT (n : Nat) : (List.replicate n true).all id = true := List.all_eq_true.mpr fun x hx => by rw [List.eq_of_mem_replicate hx]; rfl
theorem rg_vals (n : Nat) : (List.range n).map (fun (k : Nat) => V.int (k : Int)) = (rgI n).map V.int := by unfold rgI; rw [List.map_map]; rfl
theorem OrdAt.same {H H' : Hp} {t u : Addr} {n : Nat} {os : List Int} (h : OrdAt H t u n os) (e : Same H H') : OrdAt H' t u n os := let ⟨⟨b, r, a⟩, c, d⟩ := h; ⟨⟨b, r, e _ _ a⟩, e _ _ c, d⟩
theorem ps_notHere {X : Cx} {st : Stmt} : PS X st (fun _ _ _ => False) := fun _ _ _ _ _ _ h => h.elim
section
variable {P : Program} {w : World} {K : PySem.W.Frag} {mg : Str → Option Value} {base : Heap}
theorem scIsOrder : FnScope ["net", "thing"] ["net", "thing"] (defScope sIsOrder) := ⟨rfl, rfl, rfl, by decide +kernel, rfl, by decide +kernel, by decide +kernel⟩
theorem ok_isOrder {f f1 : Addr} {fd fd1 : FuncData} (F : Fun K "is_order" "is_order" sIsOrder f fd) (T : Nm mg) (T2 : Nt mg) (TS : mg "sorted" = none) (G1 : Fn K mg "is_whole" sWhole ["thing"] f1 fd1) : FnOk P w K mg base CX0 2 f fd ["net", "thing"] spIsOrder := by
  have F1 : FnOk P w K mg base CX0 1 f1 fd1 ["thing"] spWhole := ok_whole G1.F T
  refine F.ok scIsOrder (fun vs H Q E h => by obtain ⟨t, u, n, os, rfl, _⟩ := h; rfl) (fun cdv A outer s H vs Q E hr h => ?_)
  obtain ⟨t, u, n, os, rfl, ⟨⟨b, rest, ht⟩, hu, ho, hn⟩, k⟩ := h
  have hl := ho.len
  refine ⟨_, PSl.h (l_cons ⟨(ps_if (PW.pt (pw_or (pt_not (pt_val (pe_isTup T (pv 1)))) (pw_or1 (pt_not (pt_val (pe_callB (call_all rfl) rfl T.all boot_all (pa_cons (pe_comp (fr := []) (js := []) rfl (pi_tup (pv 1)) (by decide +kernel) rfl (by decide +kernel) rfl (by show ∀ y : Str × NameKind, y ∈ _ → y.2 = NameKind.free → List.lookup y.1 (defScope sIsOrder).names = some NameKind.cell; decide +kernel) (by decide +kernel) rfl (by decide +kernel) (fun _ _ _ _ _ => ⟨(pc1 G1 F1 hr (pa_cons (pv 0) pa_nil)), pts_nil⟩)) pa_nil))))))) (pss_one (ps_ret pe_bl)) pss_nil)⟩
    (l_one ⟨(ps_ret (pe_cmpR (op_eqI hr.units) (pe_callB call_sortedT rfl TS boot_sorted (pa_cons (pv 1) pa_nil)) (pe_callTy (call_listR rfl) rfl T2.tlist boot_list (pa_cons (pe_callTy call_rng1 rfl T2.range boot_range (pa_cons (pe_ix ix_tup (pv 0) pe_int (fun _ _ => rfl)) pa_nil)) pa_nil)) (nomark _)))⟩)), ?_⟩
  have tyu : tyn H (.ref u) = some "tuple" := by simp only [tyn]; rw [hu]
  refine ⟨_, rfl, _, "tuple", rfl, tyu, _, rfl, iteC (by decide) ?_⟩
  refine ⟨_, rfl, u, rfl, ⟨_, SqT.of hu⟩, ?_⟩
  refine comp_tup (K := K) (a := u) (xs := os.map V.int) (fun i zs H2 => H2 = H ∧ zs = (List.replicate i true).map V.bl) ⟨rfl, rfl⟩ (fun i zs H2 hi ⟨e1, e2⟩ => ?_) (by rw [List.length_map]; exact small_le (by omega)) (fun i x zs H2 hx ⟨e1, e2⟩ => ?_) (fun zs H2 ⟨e1, e2⟩ D hD => ?_)
  · subst e1
    exact ⟨SqT.of hu, by rw [e2, List.length_map, List.length_replicate]; exact Nat.le_refl _⟩
  · subst e1
    rw [List.getElem?_map] at hx
    obtain ⟨m, _, rfl⟩ := Option.map_eq_some_iff.mp hx
    refine tNoIf_go ?_
    exact ⟨_, rfl, _, rfl, ⟨"int", rfl⟩, rfl, by rw [e2, List.replicate_succ', List.map_append]; rfl⟩
  subst e1
  subst e2
  refine ⟨D, _, rfl, SqL.of upd_same, _, rfl, iteC (by rw [allT]; rfl) ?_⟩
  have S1 : Same H2 (upd H2 D (.lst ((List.replicate (os.map V.int).length true).map V.bl))) := Same.put (Same.refl H2) hD
  generalize upd H2 D (.lst ((List.replicate (os.map V.int).length true).map V.bl)) = H1 at S1 ⊢
  refine ⟨_, rfl, u, os, rfl, SqT.of (S1 _ _ hu), by omega, fun l ns' hl' hp hs => ?_⟩
  have e := sorted_ord ho hp hs
  subst e
  have S2 : Same H1 (upd H1 l (.lst ((rgI n).map V.int))) := Same.put (Same.refl H1) hl'
  have h2 : (upd H1 l (.lst ((rgI n).map V.int))) l = some (.lst ((rgI n).map V.int)) := upd_same
  generalize upd H1 l (.lst ((rgI n).map V.int)) = H3 at S2 h2 ⊢
  refine ⟨_, rfl, t, _, _, _, rfl, rfl, SqT.of (S2 _ _ (S1 _ _ ht)), atI_nat (j := 1) rfl, (n : Int), rfl, fun q4 H4 S4 h4 => ?_⟩
  refine ⟨q4, n, rfl, h4, by omega, fun l2 hl2 => ?_⟩
  have S5 := Same.put (o := .lst ((List.range n).map fun (k : Nat) => V.int (k : Int))) (Same.refl H4) hl2
  refine ⟨l, l2, rgI n, rgI n, rfl, rfl, SqL.of (S5 _ _ (S4 _ _ h2)), SqL.of (by rw [← rg_vals]; exact upd_same), ?_⟩
  rw [decide_eq_true rfl]
  exact k _ (S1.trans (S2.trans (S4.trans S5)))
theorem scCheckO : FnScope ["net", "order"] ["net", "order"] (defScope sCheckO) := ⟨rfl, rfl, rfl, by decide +kernel, rfl, by decide +kernel, by decide +kernel⟩
theorem ok_checkO {f f1 : Addr} {fd fd1 : FuncData} (F : Fun K "check_order" "check_order" sCheckO f fd) (G1 : Fn K mg "is_order" sIsOrder ["net", "thing"] f1 fd1) (F1 : FnOk P w K mg base CX0 2 f1 fd1 ["net", "thing"] spIsOrder) : FnOk P w K mg base CX0 3 f fd ["net", "order"] spCheckO := by
  refine F.ok scCheckO (fun vs H Q E h => by obtain ⟨t, u, n, os, rfl, _⟩ := h; rfl) (fun cdv A outer s H vs Q E hr h => ?_)
  obtain ⟨t, u, n, os, rfl, hO, k⟩ := h
  refine ⟨_, PSl.h (l_one ⟨(ps_if (pt_not (pt_val (pc1 G1 F1 hr (pa_cons (pv 0) (pa_cons (pv 1) pa_nil))))) (pss_one ps_notHere) pss_nil)⟩), ?_⟩
  exact ⟨_, rfl, _, rfl, t, u, n, os, rfl, hO, fun H1 S1 => ⟨_, rfl, iteC (by rfl) (k H1 S1)⟩⟩
theorem scNamedA : FnScope ["net", "order", "names"] ["net", "order"] (defScope sNamedA) := ⟨rfl, rfl, rfl, by decide +kernel, rfl, by decide +kernel, by decide +kernel⟩
theorem ok_namedA {f f1 f2 : Addr} {fd fd1 fd2 : FuncData} (F : Fun K "named_anew" "named_anew" sNamedA f fd) (T : Nm mg) (T2 : Nt mg) (G1 : Fn K mg "check_order" sCheckO ["net", "order"] f1 fd1) (F1 : FnOk P w K mg base CX0 3 f1 fd1 ["net", "order"] spCheckO) (G2 : Fn K mg "span_named" sNamed ["span", "names"] f2 fd2) : FnOk P w K mg base CX0 4 f fd ["net", "order"] spNamedA := by
  have F2 : FnOk P w K mg base CX0 1 f2 fd2 ["span", "names"] spNamed := ok_named G2.F
  refine F.ok scNamedA (fun vs H Q E h => by obtain ⟨v, u, b, n, sp, os, rfl, _⟩ := h; rfl) (fun cdv A outer s H vs Q E hr h => ?_)
  obtain ⟨v, u, b, n, sp, os, rfl, hv, hu, ho, hn, hs, few, k⟩ := h
  obtain ⟨t, p, ys, rfl, ht, hp, hl, hy⟩ := netP_of hv
  have hr1 : Room 1 _ := hr.mono (by decide)
  refine ⟨_, PSl.h (l_cons ⟨(ps_expr (pc1 G1 F1 hr (pa_cons (pv 0) (pa_cons (pv 1) pa_nil))))⟩
    (l_cons ⟨(ps_set (i := 2) scNamedA.nd rfl (Or.inr rfl) (pe_comp (fr := ["order"]) (js := [1]) rfl (pi_range1 rfl T2.range (pa_cons (pe_ix ix_tup (pv 0) pe_int (fun _ _ => rfl)) pa_nil)) (by decide +kernel) rfl (by decide +kernel) rfl (by show ∀ y : Str × NameKind, y ∈ _ → y.2 = NameKind.free → List.lookup y.1 (defScope sNamedA).names = some NameKind.cell; decide +kernel) (by decide +kernel) rfl (by decide +kernel) (fun _ _ _ _ _ => ⟨(pe_bmT (r := rIndexT K) PySem.F.slot_tuple_index PySem.F.type_tuple_index mt_indexT (pv 1) (pa_cons (pv 0) pa_nil)), pts_nil⟩)))⟩
    (l_one ⟨(ps_ret (pe_tupA (pa_cons (pe_ix ix_tup (pv 0) pe_int (fun _ _ => rfl)) (pa_cons (pe_ix ix_tup (pv 0) pe_int (fun _ _ => rfl)) (pa_cons (pe_callTy call_tupA rfl T.ttup boot_tuple (pa_cons (pe_comp (fr := ["names"]) (js := [2]) rfl (pi_tup (pe_ix ix_tup (pv 0) pe_int (fun _ _ => rfl))) (by decide +kernel) rfl (by decide +kernel) rfl (by show ∀ y : Str × NameKind, y ∈ _ → y.2 = NameKind.free → List.lookup y.1 (defScope sNamedA).names = some NameKind.cell; decide +kernel) (by decide +kernel) rfl (by decide +kernel) (fun _ _ _ _ _ => ⟨(pc1 G2 F2 hr1 (pa_cons (pv 0) (pa_cons (pv 1) pa_nil))), pts_nil⟩)) pa_nil)) pa_nil)))))⟩))), ?_⟩
  refine ⟨_, rfl, _, rfl, t, u, n, os, rfl, ⟨⟨b, _, ht⟩, hu, ho, hn⟩, fun H1 S1 => ?_⟩
  refine ⟨_, rfl, t, _, _, _, rfl, rfl, SqT.of (S1 _ _ ht), atI_nat (j := 1) rfl, (n : Int), rfl, by omega, by omega, ?_⟩
  refine comp_range (n := ((n : Int)).toNat) (fun i zs H2 => H2 = H1 ∧ zs = (((rgI n).take i).map (posI os)).map V.int) ⟨rfl, rfl⟩ (fun i zs H2 hi ⟨_, e2⟩ => by rw [e2, List.length_map, List.length_map, List.length_take]; omega) (small_le (by omega)) (fun i zs H2 hi ⟨e1, e2⟩ => ?_) (fun zs H2 ⟨e1, e2⟩ L hL => ?_)
  · subst e1
    have hi' : i < n := by omega
    have zi : (0 : Int) + (i : Nat) = (i : Nat) := Int.zero_add _
    rw [zi]
    refine tNoIf_go ?_
    refine ⟨_, rfl, ⟨u, _, rfl, (S1 _ _ hu)⟩, _, rfl, u, os, (i : Int), os.idxOf (i : Int), rfl, rfl, SqT.of (S1 _ _ hu), ho.at (by omega) (by omega), fun j hj => ho.first hj, rfl, ?_⟩
    rw [e2, List.take_add_one, rgI_at hi', List.map_append, List.map_append]; rfl
  subst e1
  have e3 : zs = (posL os n).map V.int := by rw [e2]; unfold posL; rw [List.take_of_length_le (by rw [rgI_len]; omega)]
  subst e3
  have S3 : Same H (upd H2 L (.lst ((posL os n).map V.int))) := S1.put hL
  have h3 : (upd H2 L (.lst ((posL os n).map V.int))) L = some (.lst ((posL os n).map V.int)) := upd_same
  generalize upd H2 L (.lst ((posL os n).map V.int)) = H3 at S3 h3 ⊢
  clear hL S1 e2
  refine ⟨_, rfl, t, _, _, _, rfl, rfl, SqT.of (S3 _ _ ht), atI_nat (j := 0) rfl, _, rfl, t, _, _, _, rfl, rfl, SqT.of (S3 _ _ ht), atI_nat (j := 1) rfl, _, rfl, t, _, _, _, rfl, rfl, SqT.of (S3 _ _ ht), atI_nat (j := 2) rfl, p, rfl, ⟨_, SqT.of (S3 _ _ hp)⟩, ?_⟩
  refine comp_tup (K := K) (a := p) (xs := ys) (fun i zs H4 => Same H3 H4 ∧ IsDs H4 zs (rowsD Sn.row ((sp.take i).map (namS (posL os n))))) ⟨Same.refl H3, .nil⟩ (fun i zs H4 hi ⟨e1, e2⟩ => ?_) (by rw [hl]; exact small_le few) (fun i x zs H4 hx ⟨e1, e2⟩ => ?_) (fun zs H4 ⟨e1, e2⟩ D hD => ?_)
  · refine ⟨SqT.of (e1 _ _ (S3 _ _ hp)), ?_⟩
    rw [e2.length]; unfold rowsD; rw [List.length_map, List.length_map, List.length_take]; omega
  · have hi : i < sp.length := by rw [← hl]; exact (List.getElem?_eq_some_iff.mp hx).1
    obtain ⟨q, hq, hq2⟩ := hy i sp[i] (List.getElem?_eq_getElem hi)
    rw [hx] at hq
    cases hq
    obtain ⟨s0, s1, g0, g1⟩ := hs sp[i] (List.getElem_mem hi)
    refine tNoIf_go ?_
    refine ⟨_, rfl, _, rfl, q, L, sp[i], posL os n, rfl, e1 _ _ (S3 _ _ hq2), e1 _ _ h3, s0, by rw [posL_len]; exact s1, g0, by rw [posL_len]; exact g1, fun q5 H5 S5 h5 => ⟨e1.trans S5, ?_⟩⟩
    unfold rowsD
    rw [List.take_add_one, List.getElem?_eq_getElem hi, List.map_append, List.map_append]
    exact (e2.same S5).append (.cons (.tup h5 (IsDs.ints (namS (posL os n) sp[i]).row)) .nil)
  · refine ⟨D, _, rfl, SqL.of upd_same, fun p5 H5 S5 h5 => ⟨(by show 3 ≤ sizeLine; decide), fun t6 H6 S6 h6 => ?_⟩⟩
    have S45 := (Same.put (o := .lst zs) (Same.refl H4) hD).trans S5
    rw [hl, List.take_length] at e2
    exact k (.ref t6) H6 (S3.trans (e1.trans (S45.trans S6))) (.tup h6 (.cons (.int b) (.cons (.int _) (.cons (.tup (S6 _ _ h5) (e2.same (S45.trans S6))) .nil))))
theorem scTabNam : FnScope ["net", "table", "order"] ["net", "table", "order"] (defScope sTabNam) := ⟨rfl, rfl, rfl, by decide +kernel, rfl, by decide +kernel, by decide +kernel⟩
theorem ok_tabNam {f f1 : Addr} {fd fd1 : FuncData} (F : Fun K "table_named_anew" "table_named_anew" sTabNam f fd) (T : Nm mg) (G1 : Fn K mg "check_order" sCheckO ["net", "order"] f1 fd1) (F1 : FnOk P w K mg base CX0 3 f1 fd1 ["net", "order"] spCheckO) : FnOk P w K mg base CX0 4 f fd ["net", "table", "order"] spTabNam := by
  refine F.ok scTabNam (fun vs H Q E h => by obtain ⟨t, u1, u2, n, ts, os, rfl, _⟩ := h; rfl) (fun cdv A outer s H vs Q E hr h => ?_)
  obtain ⟨t, u1, u2, n, ts, os, rfl, hO, hu1, hts, k⟩ := h
  obtain ⟨_, hu2, ho, hn⟩ := id hO
  have hlo := ho.len
  refine ⟨_, PSl.h (l_cons ⟨(ps_expr (pc1 G1 F1 hr (pa_cons (pv 0) (pa_cons (pv 2) pa_nil))))⟩
    (l_one ⟨(ps_ret (pe_callTy call_tupA rfl T.ttup boot_tuple (pa_cons (pe_comp (fr := ["table"]) (js := [1]) rfl (pi_tup (pv 2)) (by decide +kernel) rfl (by decide +kernel) rfl (by show ∀ y : Str × NameKind, y ∈ _ → y.2 = NameKind.free → List.lookup y.1 (defScope sTabNam).names = some NameKind.cell; decide +kernel) (by decide +kernel) rfl (by decide +kernel) (fun _ _ _ _ _ => ⟨(pe_ix (r := rIxT K) ix_tup (pv 1) (pv 0) (fun _ _ => rfl)), pts_nil⟩)) pa_nil)))⟩)), ?_⟩
  refine ⟨_, rfl, _, rfl, t, u2, n, os, rfl, hO, fun H1 S1 => ?_⟩
  refine ⟨_, rfl, u2, rfl, ⟨_, SqT.of (S1 _ _ hu2)⟩, ?_⟩
  refine comp_tup (K := K) (a := u2) (xs := os.map V.int) (fun i zs H2 => H2 = H1 ∧ zs = (permT ts (os.take i)).map V.int) ⟨rfl, rfl⟩ (fun i zs H2 hi ⟨e1, e2⟩ => ?_) (by rw [List.length_map]; exact small_le (by omega)) (fun i x zs H2 hx ⟨e1, e2⟩ => ?_) (fun zs H2 ⟨e1, e2⟩ D hD => ?_)
  · subst e1
    exact ⟨SqT.of (S1 _ _ hu2), by rw [e2, List.length_map, permT_len, List.length_take]; omega⟩
  · subst e1
    rw [List.getElem?_map] at hx
    obtain ⟨m, em, rfl⟩ := Option.map_eq_some_iff.mp hx
    obtain ⟨m0, m1⟩ := ho.mem.mp (List.mem_of_getElem? em)
    refine tNoIf_go ?_
    refine ⟨_, rfl, _, rfl, u1, _, _, _, rfl, rfl, SqT.of (S1 _ _ hu1), tm_at m0 (by omega), rfl, ?_⟩
    rw [e2]; unfold permT
    rw [List.take_add_one, em, List.map_append, List.map_append]; rfl
  · subst e1
    refine ⟨D, _, rfl, SqL.of upd_same, fun p H3 S3 h3 => ?_⟩
    refine k p H3 (S1.trans ((Same.put (Same.refl H2) hD).trans S3)) ?_
    rw [h3, e2, List.length_map, List.take_length]
end
end HN

/-! whole numbers, as the law asks for them. -/
namespace HN
open PySem L2 PyProof.Rows
abbrev sWholeL : Stmt := top 17
section
variable {P : Program} {w : World} {K : PySem.W.Frag} {mg : Str → Option Value} {base : Heap}
theorem scWholeL : FnScope ["_law_found"] ["_law_found"] (defScope sWholeL) := ⟨rfl, rfl, rfl, by decide +kernel, rfl, by decide +kernel, by decide +kernel⟩
theorem ok_wholeL {f : Addr} {fd : FuncData} (F : Fun K "_law_whole" "_law_whole" sWholeL f fd) (T : Nm mg) : FnOk P w K mg base CX0 1 f fd ["_law_found"] spWholeL := by
  refine F.ok scWholeL (fun vs H Q E h => by obtain ⟨i, rfl, _⟩ := h; rfl) (fun cdv A outer s H vs Q E hr h => ?_)
  obtain ⟨i, rfl, k⟩ := h
  refine ⟨_, PSl.h (l_one ⟨(ps_ret (pe_and (pe_isInt T (pv 0)) (pe_one (pe_not (pe_isBool T (pv 0))))))⟩), ?_⟩
  refine ⟨_, rfl, _, "int", rfl, rfl, _, rfl, iteB (by decide) ?_⟩
  exact ⟨_, rfl, _, "int", rfl, rfl, _, rfl, k⟩
end
end HN

/-! tables, as the law holds them against its own. -/
namespace HN
open PySem L2 PyProof.Rows
abbrev sIsTab : Stmt := top 19
section
variable {P : Program} {w : World} {K : PySem.W.Frag} {mg : Str → Option Value} {base : Heap}
theorem scIsTab : FnScope ["_law_found", "_law_due"] ["_law_found", "_law_due"] (defScope sIsTab) := ⟨rfl, rfl, rfl, by decide +kernel, rfl, by decide +kernel, by decide +kernel⟩
theorem ok_isTab {f f1 : Addr} {fd fd1 : FuncData} (F : Fun K "_law_is_table" "_law_is_table" sIsTab f fd) (T : Nm mg) (G1 : Fn K mg "_law_whole" sWholeL ["_law_found"] f1 fd1) : FnOk P w K mg base CX0 2 f fd ["_law_found", "_law_due"] spIsTab := by
  have F1 : FnOk P w K mg base CX0 1 f1 fd1 ["_law_found"] spWholeL := ok_wholeL G1.F T
  refine F.ok scIsTab (fun vs H Q E h => by obtain ⟨p, q, ns, rfl, _⟩ := h; rfl) (fun cdv A outer s H vs Q E hr h => ?_)
  obtain ⟨p, q, ns, rfl, hp, hq, few, k⟩ := h
  refine ⟨_, PSl.h (l_cons ⟨(ps_if (PW.pt (pw_or (pt_not (pt_val (pe_isTup T (pv 0)))) (pw_or1 (pt_cmpR (op_neD hr.units) (pv 0) (pv 1) (nomark _))))) (pss_one (ps_ret pe_bl)) pss_nil)⟩
    (l_one ⟨(ps_ret (pe_cmpR op_notIn_seq pe_bl (pe_comp (fr := []) (js := []) rfl (pi_tup (pv 0)) (by decide +kernel) rfl (by decide +kernel) rfl (by show ∀ y : Str × NameKind, y ∈ _ → y.2 = NameKind.free → List.lookup y.1 (defScope sIsTab).names = some NameKind.cell; decide +kernel) (by decide +kernel) rfl (by decide +kernel) (fun _ _ _ _ _ => ⟨(pc1 G1 F1 hr (pa_cons (pv 0) pa_nil)), pts_nil⟩)) rfl))⟩)), ?_⟩
  have typ : tyn H (.ref p) = some "tuple" := by simp only [tyn]; rw [hp]
  refine ⟨_, rfl, _, "tuple", rfl, typ, _, rfl, iteC (by decide) ?_⟩
  refine ⟨_, rfl, _, rfl, _, _, .tup hp (IsDs.ints _), .tup hq (IsDs.ints _), pls_ints _, pls_ints _, (by rw [deps_ints]; decide), _, rfl, iteC (by rw [eqDs_ints, decide_eq_true rfl]; rfl) ?_⟩
  refine ⟨_, rfl, p, rfl, ⟨_, SqT.of hp⟩, ?_⟩
  refine comp_tup (K := K) (a := p) (xs := ns.map V.int) (fun i zs H3 => H3 = H ∧ zs = List.replicate i (V.bl true)) ⟨rfl, rfl⟩ (fun i zs H3 hi ⟨e1, e2⟩ => ?_) (by rw [List.length_map]; exact small_le few) (fun i x zs H3 hx ⟨e1, e2⟩ => ?_) (fun zs H3 ⟨e1, e2⟩ D hD => ?_)
  · subst e1
    exact ⟨SqT.of hp, by rw [e2, List.length_replicate]; exact Nat.le_refl _⟩
  · subst e1
    rw [List.getElem?_map] at hx
    obtain ⟨n, _, rfl⟩ := Option.map_eq_some_iff.mp hx
    refine tNoIf_go ?_
    exact ⟨_, rfl, n, rfl, rfl, by rw [e2, List.replicate_succ']⟩
  · subst e1
    subst e2
    refine ⟨D, _, rfl, .inl (SqL.of upd_same), rfl, flat_trues _, ?_⟩
    rw [inV_trues]
    exact k _ (Same.put (Same.refl _) hD)
end
end HN

/-! nets and tables, as the law holds them against its own. -/
namespace HN
open PySem L2 PyProof.Rows
abbrev sWaitsN : Stmt := top 16
abbrev sIsNet : Stmt := top 18
abbrev sDrawnT : Stmt := top 20
section
variable {P : Program} {w : World} {K : PySem.W.Frag} {mg : Str → Option Value} {base : Heap}
theorem scWaitsN : FnScope ["_law_net_here", "_law_table", "_law_waits_here", "_law_start", "_law_goal", "_law_least", "_law_most", "_law_weight"] ["_law_net_here", "_law_table"] (defScope sWaitsN) := ⟨rfl, rfl, rfl, by decide +kernel, rfl, by decide +kernel, by decide +kernel⟩
theorem ok_waitsN {f : Addr} {fd : FuncData} (F : Fun K "_law_waits" "_law_waits" sWaitsN f fd) : FnOk P w K mg base CX0 1 f fd ["_law_net_here", "_law_table"] spWaitsN := by
  refine F.ok scWaitsN (fun vs H Q E h => by obtain ⟨v, u, b, m, sp, ts, rfl, _⟩ := h; rfl) (fun cdv A outer s H vs Q E hr h => ?_)
  obtain ⟨v, u, b, m, sp, ts, rfl, hv, hu, R, k⟩ := h
  obtain ⟨t, p, ys, rfl, ht, hp, hl, hy⟩ := netP_of hv
  have few := R.few
  refine ⟨_, PSl.h (l_cons ⟨(ps_set (i := 2) scWaitsN.nd rfl (Or.inl rfl) (pe_lst pa_nil))⟩
    (l_cons ⟨(ps_for PassesOwn.never rfl (pi_tup (pe_ix ix_tup (pv 0) pe_int (fun _ _ => rfl))) (pg_tup rfl (pgs_cons (pg_name (i := 3) scWaitsN.nd rfl (Or.inl rfl)) (pgs_cons (pg_name (i := 4) scWaitsN.nd rfl (Or.inl rfl)) (pgs_cons (pg_name (i := 5) scWaitsN.nd rfl (Or.inl rfl)) (pgs_cons (pg_name (i := 6) scWaitsN.nd rfl (Or.inl rfl)) (pgs_cons (pg_name (i := 7) scWaitsN.nd rfl (Or.inl rfl)) pgs_nil)))))) (pss_one (ps_expr (pe_bm PySem.F.plainAttrs_list PySem.F.slot_list_append PySem.F.type_list_append mt_append (pv 2) (pa_cons (pe_op op_mod (pe_op op_sub (pe_op op_sub (pe_ix ix_tup (pv 1) (pv 4) (fun _ _ => rfl)) (pe_ix ix_tup (pv 1) (pv 3) (fun _ _ => rfl))) (pv 5)) (pe_ix ix_tup (pv 0) pe_int (fun _ _ => rfl))) pa_nil)))))⟩
    (l_one ⟨(ps_ret (pv 2))⟩))), ?_⟩
  refine ⟨Nat.zero_le _, fun L hL => ?_⟩
  have S1 : Same H (upd H L (.lst [])) := Same.put (Same.refl H) hL
  have h1 : (upd H L (.lst [])) L = some (.lst []) := upd_same
  generalize upd H L (.lst []) = H1 at S1 h1 ⊢
  refine ⟨_, rfl, t, _, _, _, rfl, rfl, SqT.of (S1 _ _ ht), atI_nat (j := 2) rfl, p, rfl, ⟨_, SqT.of (S1 _ _ hp)⟩, ?_⟩
  refine for_tup (K := K) (xs := ys) (fun i σ H2 => Same H H2 ∧ H2 L = some (.lst ((waitsM b ts (sp.take i)).map V.int)) ∧ ∃ v3 v4 v5 v6 v7, σ = [some (.ref t), some (.ref u), some (.ref L), v3, v4, v5, v6, v7]) ⟨S1, h1, none, none, none, none, none, rfl⟩ (fun i σ H2 _ ⟨S2, _⟩ => SqT.of (S2 _ _ hp)) ?_ ?_
  · rintro i x σ H2 hx ⟨S2, h2, v3, v4, v5, v6, v7, rfl⟩
    have hi : i < sp.length := by rw [← hl]; exact (List.getElem?_eq_some_iff.mp hx).1
    obtain ⟨q, hq, hq2⟩ := hy i sp[i] (List.getElem?_eq_getElem hi)
    rw [hx] at hq
    cases hq
    have hq3 := S2 _ _ hq2
    have hu2 := S2 _ _ hu
    obtain ⟨s0, s1, g0, g1⟩ := R.ends sp[i] (List.getElem_mem hi)
    refine ⟨q, _, rfl, SqT.of hq3, rfl, _, _, rfl, _, _, rfl, _, _, rfl, _, _, rfl, _, _, rfl, rfl, ?_⟩
    refine ⟨_, rfl, .inl ⟨rfl, _, SqL.of h2⟩, _, rfl, _, rfl, u, _, _, _, rfl, rfl, SqT.of hu2, tm_at g0 g1, _, rfl, _, rfl, u, _, _, _, rfl, rfl, SqT.of hu2, tm_at s0 s1, _, _, rfl, rfl, _, rfl, _, _, rfl, rfl, _, rfl, t, _, _, _, rfl, rfl, SqT.of (S2 _ _ ht), atI_nat (j := 0) rfl, _, _, rfl, rfl, R.b1, ?_⟩
    refine ⟨L, _, _, rfl, rfl, h2, (Nat.lt_of_lt_of_le (by unfold waitsM; rw [List.length_map, List.length_map, List.length_take]; omega : _ < 1001) (by decide : 1001 ≤ sizeLine)), ?_⟩
    refine ⟨fun c o e => ?_, ?_, _, _, _, _, _, rfl⟩
    · rw [upd_ne (fun z => by rw [z, hL] at e; cases e)]
      exact S2 _ _ e
    · rw [upd_same, List.take_add_one, List.getElem?_eq_getElem hi]
      unfold waitsM
      rw [List.map_append, List.map_append]; rfl
  · rintro σ H2 ⟨S2, h2, v3, v4, v5, v6, v7, rfl⟩
    rw [hl, List.take_length] at h2
    exact ⟨_, rfl, k L H2 S2 h2⟩
theorem scIsNet : FnScope ["_law_found", "_law_due", "_law_numbers_here", "_law_span_here"] ["_law_found", "_law_due"] (defScope sIsNet) := ⟨rfl, rfl, rfl, by decide +kernel, rfl, by decide +kernel, by decide +kernel⟩
theorem ok_isNet {f f1 : Addr} {fd fd1 : FuncData} (F : Fun K "_law_is_net" "_law_is_net" sIsNet f fd) (T : Nm mg) (T2 : Nt mg) (G1 : Fn K mg "_law_whole" sWholeL ["_law_found"] f1 fd1) : FnOk P w K mg base CX0 2 f fd ["_law_found", "_law_due"] spIsNet := by
  have F1 : FnOk P w K mg base CX0 1 f1 fd1 ["_law_found"] spWholeL := ok_wholeL G1.F T
  refine F.ok scIsNet (fun vs H Q E h => by obtain ⟨v, u, b, m, sp, rfl, _⟩ := h; rfl) (fun cdv A outer s H vs Q E hr h => ?_)
  obtain ⟨v, u, b, m, sp, rfl, hv, hu, few, k⟩ := h
  have tyv := hv.tyn
  obtain ⟨t, p, ys, rfl, ht, hp, hl, hy⟩ := netP_of hv
  refine ⟨_, PSl.h (l_cons ⟨(ps_if (PW.pt (pw_or (pt_not (pt_val (pe_isTup T (pv 0)))) (pw_or (pt_cmpR (op_neD hr.units) (pv 0) (pv 1) (nomark _)) (pw_or1 (pt_not (pt_val (pe_isTup T (pe_ix ix_tup (pv 0) pe_int (fun _ _ => rfl))))))))) (pss_one (ps_ret pe_bl)) pss_nil)⟩
    (l_cons ⟨(ps_set (i := 2) scIsNet.nd rfl (Or.inl rfl) (pe_lst (pa_cons (pe_ix ix_tup (pv 0) pe_int (fun _ _ => rfl)) (pa_cons (pe_ix ix_tup (pv 0) pe_int (fun _ _ => rfl)) pa_nil))))⟩
    (l_cons ⟨(ps_for PassesOwn.never rfl (pi_tup (pe_ix ix_tup (pv 0) pe_int (fun _ _ => rfl))) (pg_name (i := 3) scIsNet.nd rfl (Or.inl rfl)) (PSl.h (l_cons ⟨(ps_if (pt_not (pt_val (pe_isTup T (pv 3)))) (pss_one (ps_ret pe_bl)) pss_nil)⟩
    (l_one ⟨(ps_expr (pe_bm PySem.F.plainAttrs_list PySem.F.slot_list_extend PySem.F.type_list_extend mt_extend (pv 2) (pa_cons (pe_callTy call_listA rfl T2.tlist boot_list (pa_cons (pv 3) pa_nil)) pa_nil)))⟩))))⟩
    (l_one ⟨(ps_ret (pe_cmpR op_notIn_seq pe_bl (pe_comp (fr := []) (js := []) rfl (pi_list (pv 2)) (by decide +kernel) rfl (by decide +kernel) rfl (by show ∀ y : Str × NameKind, y ∈ _ → y.2 = NameKind.free → List.lookup y.1 (defScope sIsNet).names = some NameKind.cell; decide +kernel) (by decide +kernel) rfl (by decide +kernel) (fun _ _ _ _ _ => ⟨(pc1 G1 F1 hr (pa_cons (pv 0) pa_nil)), pts_nil⟩)) rfl))⟩)))), ?_⟩
  refine ⟨_, rfl, _, _, rfl, tyv, _, rfl, iteC (by rfl) ?_⟩
  refine ⟨_, rfl, _, rfl, _, _, hv, hu, pls_netP b m sp, pls_netP b m sp, deps_netP b m sp, _, rfl, iteC (by rw [eqDs_refl _ (pls_netP b m sp)]; rfl) ?_⟩
  have typ : tyn H (.ref p) = some "tuple" := by simp only [tyn]; rw [hp]
  refine ⟨_, rfl, t, _, _, _, rfl, rfl, SqT.of ht, atI_nat (j := 2) rfl, _, "tuple", rfl, typ, _, rfl, iteC (by decide) ?_⟩
  refine ⟨_, rfl, t, _, _, _, rfl, rfl, SqT.of ht, atI_nat (j := 0) rfl, _, rfl, t, _, _, _, rfl, rfl, SqT.of ht, atI_nat (j := 1) rfl, (by show 2 ≤ sizeLine; decide), fun L hL => ?_⟩
  have S1 : Same H (upd H L (.lst [.int b, .int m])) := Same.put (Same.refl H) hL
  have h1 : (upd H L (.lst [.int b, .int m])) L = some (.lst ([b, m].map V.int)) := upd_same
  generalize upd H L (.lst [.int b, .int m]) = H1 at S1 h1 ⊢
  refine ⟨_, rfl, t, _, _, _, rfl, rfl, SqT.of (S1 _ _ ht), atI_nat (j := 2) rfl, p, rfl, ⟨_, SqT.of (S1 _ _ hp)⟩, ?_⟩
  refine for_tup (K := K) (xs := ys) (fun i σ H2 => Same H H2 ∧ ∃ (ns : List Int) (v3 : Option V), H2 L = some (.lst (ns.map V.int)) ∧ ns.length = 2 + 5 * i ∧ σ = [some (.ref t), some u, some (.ref L), v3]) ⟨S1, [b, m], none, h1, rfl, rfl⟩ (fun i σ H2 _ ⟨S2, _⟩ => SqT.of (S2 _ _ hp)) ?_ ?_
  · rintro i x σ H2 hx ⟨S2, ns, v3, h2, l2, rfl⟩
    have hi : i < sp.length := by rw [← hl]; exact (List.getElem?_eq_some_iff.mp hx).1
    obtain ⟨q, hq, hq2⟩ := hy i sp[i] (List.getElem?_eq_getElem hi)
    rw [hx] at hq
    cases hq
    have hq3 := S2 _ _ hq2
    have tyq : tyn H2 (.ref q) = some "tuple" := by simp only [tyn]; rw [hq3]
    refine ⟨_, rfl, _, "tuple", rfl, tyq, _, rfl, iteC (by decide) ?_⟩
    refine ⟨_, rfl, .inl ⟨rfl, _, SqL.of h2⟩, _, rfl, q, _, rfl, .inr (SqT.of hq3), fun D H3 S3 h3 => ?_⟩
    refine ⟨L, D, _, _, rfl, rfl, S3 _ _ h2, h3, (Nat.le_trans (by rw [List.length_map, l2]; show 2 + 5 * i + 5 ≤ 300; omega) (by decide : 300 ≤ sizeLine)), ?_⟩
    refine ⟨fun c o e => ?_, ns ++ sp[i].row, _, ?_, ?_, rfl⟩
    · rw [upd_ne (fun z => by rw [z, hL] at e; cases e)]
      exact S3 _ _ (S2 _ _ e)
    · rw [upd_same, List.map_append]; rfl
    · rw [List.length_append, l2]; show 2 + 5 * i + 5 = 2 + 5 * (i + 1); omega
  · rintro σ H2 ⟨S2, ns, v3, h2, l2, rfl⟩
    refine ⟨_, rfl, L, rfl, ⟨_, SqL.of h2⟩, ?_⟩
    refine comp_list (K := K) (a := L) (xs := ns.map V.int) (fun i zs H3 => H3 = H2 ∧ zs = List.replicate i (V.bl true)) ⟨rfl, rfl⟩ (fun i zs H3 hi ⟨e1, e2⟩ => ?_) (by rw [List.length_map, l2, hl]; exact small_le (by omega)) (fun i x zs H3 hx ⟨e1, e2⟩ => ?_) (fun zs H3 ⟨e1, e2⟩ D hD => ?_)
    · subst e1
      exact ⟨SqL.of h2, by rw [e2, List.length_replicate]; exact Nat.le_refl _⟩
    · subst e1
      rw [List.getElem?_map] at hx
      obtain ⟨n, _, rfl⟩ := Option.map_eq_some_iff.mp hx
      refine tNoIf_go ?_
      exact ⟨_, rfl, n, rfl, rfl, by rw [e2, List.replicate_succ']⟩
    · subst e1
      subst e2
      refine ⟨D, _, rfl, .inl (SqL.of upd_same), rfl, flat_trues _, ?_⟩
      rw [inV_trues]
      exact k _ (S2.put hD)
theorem scDrawnT : FnScope ["_law_deck", "_law_net_here"] ["_law_deck", "_law_net_here"] (defScope sDrawnT) := ⟨rfl, rfl, rfl, by decide +kernel, rfl, by decide +kernel, by decide +kernel⟩
theorem ok_drawnT {f f1 : Addr} {fd fd1 : FuncData} (F : Fun K "_law_drawn_table" "_law_drawn_table" sDrawnT f fd) (T : Nm mg) (T2 : Nt mg) (G1 : Fn K mg "_law_draw" sDrawD ["_law_deck", "_law_most"] f1 fd1) : FnOk P w K mg base CX0 2 f fd ["_law_deck", "_law_net_here"] spDrawnT := by
  have F1 : FnOk P w K mg base CX0 1 f1 fd1 ["_law_deck", "_law_most"] spDrawD := ok_drawD G1.F T
  refine F.ok scDrawnT (fun vs H Q E h => by obtain ⟨p, t, b, m, rest, rfl, _⟩ := h; rfl) (fun cdv A outer s H vs Q E hr h => ?_)
  obtain ⟨p, t, b, m, rest, rfl, hp, ht, b1, b61, m0, m1, k⟩ := h
  refine ⟨_, PSl.h (l_one ⟨(ps_ret (pe_callTy call_tupA rfl T.ttup boot_tuple (pa_cons (pe_comp (fr := ["_law_deck", "_law_net_here"]) (js := [0, 1]) rfl (pi_range1 rfl T2.range (pa_cons (pe_ix ix_tup (pv 1) pe_int (fun _ _ => rfl)) pa_nil)) (by decide +kernel) rfl (by decide +kernel) rfl (by show ∀ y : Str × NameKind, y ∈ _ → y.2 = NameKind.free → List.lookup y.1 (defScope sDrawnT).names = some NameKind.cell; decide +kernel) (by decide +kernel) rfl (by decide +kernel) (fun _ _ _ _ _ => ⟨(pc1 G1 F1 hr (pa_cons (pv 1) (pa_cons (pe_ix (r := rIxT K) ix_tup (pv 2) pe_int (fun _ _ => rfl)) pa_nil))), pts_nil⟩)) pa_nil)))⟩), ?_⟩
  refine ⟨_, rfl, t, _, _, _, rfl, rfl, SqT.of ht, atI_nat (j := 1) rfl, m, rfl, by omega, by omega, ?_⟩
  refine comp_range (n := m.toNat) (fun i zs H4 => Md p H H4 ∧ ∃ hs : List Int, zs = hs.map V.int ∧ hs.length = i ∧ ∀ x ∈ hs, 0 ≤ x ∧ x < b) ⟨Md.refl hp, [], rfl, rfl, fun _ h => absurd h (by simp)⟩ (fun i zs H4 _ ⟨_, hs, e, hl, _⟩ => by rw [e, List.length_map, hl]; exact Nat.le_refl _) (small_le (by omega)) (fun i zs H4 hi ⟨M4, hs, e4, hl4, all4⟩ => ?_) (fun zs H4 ⟨M4, hs, e4, hl4, all4⟩ D hD => ?_)
  · refine tNoIf_go ?_
    refine ⟨_, rfl, _, rfl, t, _, _, _, rfl, rfl, SqT.of (Md.tupK hp M4 _ _ ht), atI_nat (j := 0) rfl, p, b, rfl, M4.2, by omega, b61, fun r5 H5 r50 r51 M5 => ⟨M4.trans M5, hs ++ [r5], by rw [e4, List.map_append]; rfl, by rw [List.length_append, hl4]; rfl, fun x hx => ?_⟩⟩
    rcases List.mem_append.mp hx with hx | hx
    · exact all4 x hx
    · rw [List.mem_singleton.mp hx]; exact ⟨r50, r51⟩
  subst e4
  exact ⟨D, _, rfl, SqL.of upd_same, fun u H6 S6 h6 => k u hs H6 (M4.then ((Same.put (Same.refl H4) hD).trans S6)) h6 (by omega) all4⟩
end
end HN

/-! k72: the law. -/
namespace HN
open PySem L2 PyProof.Rows
abbrev sLaw : Stmt := top 22
def spLaw (K : PySem.W.Frag) : Sp := fun vs H Q _ => ∃ (a : Addr) (ns : List Int), vs = [.ref a] ∧ SqL K H a (ns.map V.int) ∧ ns.length ≤ 63 ∧ ∀ H', Q (.bl true) H'
section
variable {P : Program} {w : World} {K : PySem.W.Frag} {mg : Str → Option Value} {base : Heap}
theorem scLaw : FnScope ["_law_script", "_law_deck", "_law_net_here", "_law_hidden", "_law_order_here", "_law_spans", "_law_start", "_law_goal", "_law_least", "_law_most", "_law_weight", "_law_found", "_law_back", "_law_rising", "_law_table", "_law_told"] ["_law_script"] (defScope sLaw) := ⟨rfl, rfl, rfl, by decide +kernel, rfl, by decide +kernel, by decide +kernel⟩
theorem ok_law {f f1 f2 f3 f4 f5 f6 f7 f8 f9 : Addr} {fd fd1 fd2 fd3 fd4 fd5 fd6 fd7 fd8 fd9 : FuncData} (F : Fun K "law" "law" sLaw f fd) (T : Nm mg) (T2 : Nt mg)
    (G1 : Fn K mg "_law_numbers" sNums ["_law_script", "_law_most"] f1 fd1)
    (G2 : Fn K mg "_law_net" sNetD ["_law_deck", "_law_most", "_law_beats", "_law_size", "_law_great"] f2 fd2) (F2 : FnOk P w K mg base CX0 3 f2 fd2 ["_law_deck", "_law_most", "_law_beats", "_law_size", "_law_great"] spNetD)
    (G3 : Fn K mg "_law_order" sOrderL ["_law_deck", "_law_many"] f3 fd3) (F3 : FnOk P w K mg base CX0 2 f3 fd3 ["_law_deck", "_law_many"] spOrderL)
    (G4 : Fn K mg "named_anew" sNamedA ["net", "order"] f4 fd4) (F4 : FnOk P w K mg base CX0 4 f4 fd4 ["net", "order"] spNamedA)
    (G5 : Fn K mg "_law_is_net" sIsNet ["_law_found", "_law_due"] f5 fd5) (F5 : FnOk P w K mg base CX0 2 f5 fd5 ["_law_found", "_law_due"] spIsNet)
    (G6 : Fn K mg "_law_drawn_table" sDrawnT ["_law_deck", "_law_net_here"] f6 fd6) (F6 : FnOk P w K mg base CX0 2 f6 fd6 ["_law_deck", "_law_net_here"] spDrawnT)
    (G7 : Fn K mg "table_named_anew" sTabNam ["net", "table", "order"] f7 fd7) (F7 : FnOk P w K mg base CX0 4 f7 fd7 ["net", "table", "order"] spTabNam)
    (G8 : Fn K mg "_law_is_table" sIsTab ["_law_found", "_law_due"] f8 fd8) (F8 : FnOk P w K mg base CX0 2 f8 fd8 ["_law_found", "_law_due"] spIsTab)
    (G9 : Fn K mg "_law_waits" sWaitsN ["_law_net_here", "_law_table"] f9 fd9) : FnOk P w K mg base CX0 5 f fd ["_law_script"] (spLaw K) := by
  have F1 : FnOk P w K mg base CX0 1 f1 fd1 ["_law_script", "_law_most"] (spNums K) := ok_nums G1.F T T2
  have F9 : FnOk P w K mg base CX0 1 f9 fd9 ["_law_net_here", "_law_table"] spWaitsN := ok_waitsN G9.F
  refine F.ok scLaw (fun vs H Q E h => by obtain ⟨a, ns, rfl, _⟩ := h; rfl) (fun cdv A outer s H vs Q E hr h => ?_)
  obtain ⟨a, ns, rfl, ha, hn, k⟩ := h
  have hr1 : Room 1 _ := hr.mono (by decide)
  have hr2 : Room 2 _ := hr.mono (by decide)
  have hr3 : Room 3 _ := hr.mono (by decide)
  refine ⟨_, PSl.h (l_cons ⟨(ps_set (i := 1) scLaw.nd rfl (Or.inl rfl) (pc1 G1 F1 hr1 (pa_cons (pv 0) (pa_cons pe_int pa_nil))))⟩
    (l_cons ⟨(ps_asg (pc1 G2 F2 hr3 (pa_cons (pv 1) (pa_cons pe_int (pa_cons pe_int (pa_cons pe_int (pa_cons (pe_op op_pow pe_int pe_int) pa_nil)))))) (pg_tup rfl (pgs_cons (pg_name (i := 2) scLaw.nd rfl (Or.inl rfl)) (pgs_cons (pg_name (i := 3) scLaw.nd rfl (Or.inl rfl)) pgs_nil))))⟩
    (l_cons ⟨(ps_set (i := 4) scLaw.nd rfl (Or.inr rfl) (pc1 G3 F3 hr2 (pa_cons (pv 1) (pa_cons (pe_ix ix_tup (pv 2) pe_int (fun _ _ => rfl)) pa_nil))))⟩
    (l_cons ⟨(ps_set (i := 5) scLaw.nd rfl (Or.inl rfl) (pe_lst pa_nil))⟩
    (l_cons ⟨(ps_for PassesOwn.never rfl (pi_tup (pe_ix ix_tup (pv 2) pe_int (fun _ _ => rfl))) (pg_tup rfl (pgs_cons (pg_name (i := 6) scLaw.nd rfl (Or.inl rfl)) (pgs_cons (pg_name (i := 7) scLaw.nd rfl (Or.inl rfl)) (pgs_cons (pg_name (i := 8) scLaw.nd rfl (Or.inl rfl)) (pgs_cons (pg_name (i := 9) scLaw.nd rfl (Or.inl rfl)) (pgs_cons (pg_name (i := 10) scLaw.nd rfl (Or.inl rfl)) pgs_nil)))))) (pss_one (ps_expr (pe_bm PySem.F.plainAttrs_list PySem.F.slot_list_append PySem.F.type_list_append mt_append (pv 5) (pa_cons (pe_tupA (pa_cons (pe_bmT (r := rIndexT K) PySem.F.slot_tuple_index PySem.F.type_tuple_index mt_indexT (pv 4) (pa_cons (pv 6) pa_nil)) (pa_cons (pe_bmT (r := rIndexT K) PySem.F.slot_tuple_index PySem.F.type_tuple_index mt_indexT (pv 4) (pa_cons (pv 7) pa_nil)) (pa_cons (pv 8) (pa_cons (pv 9) (pa_cons (pv 10) pa_nil)))))) pa_nil)))))⟩
    (l_cons ⟨(ps_set (i := 11) scLaw.nd rfl (Or.inl rfl) (pc1 G4 F4 hr (pa_cons (pv 2) (pa_cons (pv 4) pa_nil))))⟩
    (l_cons ⟨(ps_set (i := 12) scLaw.nd rfl (Or.inl rfl) (pe_callTy call_tupA rfl T.ttup boot_tuple (pa_cons (pe_comp (fr := ["_law_order_here"]) (js := [4]) rfl (pi_range1 rfl T2.range (pa_cons (pe_ix ix_tup (pv 2) pe_int (fun _ _ => rfl)) pa_nil)) (by decide +kernel) rfl (by decide +kernel) rfl (by show ∀ y : Str × NameKind, y ∈ _ → y.2 = NameKind.free → List.lookup y.1 (defScope sLaw).names = some NameKind.cell; decide +kernel) (by decide +kernel) rfl (by decide +kernel) (fun _ _ _ _ _ => ⟨(pe_bmT (r := rIndexT K) PySem.F.slot_tuple_index PySem.F.type_tuple_index mt_indexT (pv 1) (pa_cons (pv 0) pa_nil)), pts_nil⟩)) pa_nil)))⟩
    (l_cons ⟨(ps_set (i := 13) scLaw.nd rfl (Or.inl rfl) (pe_callTy (call_tupR rfl) rfl T.ttup boot_tuple (pa_cons (pe_callTy call_rng1 rfl T2.range boot_range (pa_cons (pe_ix ix_tup (pv 2) pe_int (fun _ _ => rfl)) pa_nil)) pa_nil)))⟩
    (l_cons ⟨(ps_if (PW.pt (pw_or (pt_not (pt_val (pc1 G5 F5 hr2 (pa_cons (pv 11) (pa_cons (pe_tupA (pa_cons (pe_ix ix_tup (pv 2) pe_int (fun _ _ => rfl)) (pa_cons (pe_ix ix_tup (pv 2) pe_int (fun _ _ => rfl)) (pa_cons (pe_callTy call_tupA rfl T.ttup boot_tuple (pa_cons (pv 5) pa_nil)) pa_nil)))) pa_nil))))) (pw_or1 (pt_cmpR (op_neD hr.units) (pc1 G4 F4 hr (pa_cons (pv 11) (pa_cons (pv 12) pa_nil))) (pv 2) (nomark _))))) (pss_one (ps_ret pe_bl)) pss_nil)⟩
    (l_cons ⟨(ps_if (pt_cmpR (op_neD hr.units) (pc1 G4 F4 hr (pa_cons (pv 2) (pa_cons (pv 13) pa_nil))) (pv 2) (nomark _)) (pss_one (ps_ret pe_bl)) pss_nil)⟩
    (l_cons ⟨(ps_for PassesOwn.never rfl (pi_list (pe_lstA (pa_cons (pv 3) (pa_cons (pc1 G6 F6 hr2 (pa_cons (pv 1) (pa_cons (pv 2) pa_nil))) pa_nil)))) (pg_name (i := 14) scLaw.nd rfl (Or.inr rfl)) (PSl.h (l_cons ⟨(ps_set (i := 15) scLaw.nd rfl (Or.inl rfl) (pc1 G7 F7 hr (pa_cons (pv 2) (pa_cons (pv 14) (pa_cons (pv 4) pa_nil)))))⟩
    (l_cons ⟨(ps_if (pt_not (pt_val (pc1 G8 F8 hr2 (pa_cons (pv 15) (pa_cons (pe_callTy call_tupA rfl T.ttup boot_tuple (pa_cons (pe_comp (fr := ["_law_table"]) (js := [14]) rfl (pi_tup (pv 4)) (by decide +kernel) rfl (by decide +kernel) rfl (by show ∀ y : Str × NameKind, y ∈ _ → y.2 = NameKind.free → List.lookup y.1 (defScope sLaw).names = some NameKind.cell; decide +kernel) (by decide +kernel) rfl (by decide +kernel) (fun _ _ _ _ _ => ⟨(pe_ix (r := rIxT K) ix_tup (pv 1) (pv 0) (fun _ _ => rfl)), pts_nil⟩)) pa_nil)) pa_nil))))) (pss_one (ps_ret pe_bl)) pss_nil)⟩
    (l_cons ⟨(ps_if (pt_cmpR (op_neI hr.units) (pc1 G9 F9 hr1 (pa_cons (pv 11) (pa_cons (pv 15) pa_nil))) (pc1 G9 F9 hr1 (pa_cons (pv 2) (pa_cons (pv 14) pa_nil))) (nomark _)) (pss_one (ps_ret pe_bl)) pss_nil)⟩
    (l_one ⟨(ps_if (PW.pt (pw_or (pt_cmpR (op_neD hr.units) (pc1 G7 F7 hr (pa_cons (pv 11) (pa_cons (pv 15) (pa_cons (pv 12) pa_nil)))) (pv 14) (nomark _)) (pw_or1 (pt_cmpR (op_neD hr.units) (pc1 G7 F7 hr (pa_cons (pv 2) (pa_cons (pv 14) (pa_cons (pv 13) pa_nil)))) (pv 14) (nomark _))))) (pss_one (ps_ret pe_bl)) pss_nil)⟩))))))⟩
    (l_one ⟨(ps_ret pe_bl)⟩)))))))))))), ?_⟩
  refine ⟨_, rfl, a, ns, 700, rfl, ha, by decide, by decide, fun p H1 H2 S1 hp1 M2 => ?_⟩
  refine ⟨_, rfl, _, _, rfl, rfl, ⟨by decide, by decide, by decide⟩, p, 16, 60, 40, _, rfl, M2.2, by decide, by decide, by decide, by decide, by decide, by decide, by decide, by decide, fun t v hd b m sp hs H3 M3 h3 hv N b33 hhs hlh hall => ?_⟩
  have few := N.few
  have b1 := N.b1
  have m1 := N.m1
  have m2 := N.m2
  obtain ⟨n, rfl⟩ : ∃ n : Nat, m = (n : Int) := ⟨m.toNat, by omega⟩
  have hn16 : n ≤ 16 := by omega
  obtain ⟨tn, pn, ys, rfl, ht, hpn, hl, hy⟩ := netP_of hv
  have hb : 0 < b := by omega
  have hb61 : b < 10 ^ 61 := Int.lt_of_le_of_lt b33 (by decide)
  have hE : EndsIn n sp := fun x hx => by
    have ok := N.all x hx
    exact ⟨ok.s0, ok.s1, ok.g0, ok.g1⟩
  have hdk := M3.2
  refine ⟨t, _, rfl, SqT.of h3, rfl, _, _, rfl, _, _, rfl, rfl, ?_⟩
  clear h3 M3 M2
  -- the order
  refine ⟨_, rfl, _, rfl, tn, _, _, _, rfl, rfl, SqT.of ht, atI_nat (j := 1) rfl, p, n, rfl, hdk, hn16, fun uo os H4 M4 ho4 ho => ?_⟩
  have K4 : TupK H3 H4 := Md.tupK hdk M4
  have hdk4 := M4.2
  have ht4 := K4 _ _ ht
  have hpn4 := K4 _ _ hpn
  have hv4 := netP_keepM K4 hv
  have hhs4 := K4 _ _ hhs
  -- the spans
  refine ⟨Nat.zero_le _, fun L hL => ?_⟩
  have S5 : Same H4 (upd H4 L (.lst [])) := Same.put (Same.refl H4) hL
  have h5 : (upd H4 L (.lst [])) L = some (.lst []) := upd_same
  generalize upd H4 L (.lst []) = H5 at S5 h5 ⊢
  refine ⟨_, rfl, tn, _, _, _, rfl, rfl, SqT.of (S5 _ _ ht4), atI_nat (j := 2) rfl, pn, rfl, ⟨_, SqT.of (S5 _ _ hpn4)⟩, ?_⟩
  refine for_tup (K := K) (xs := ys) (fun i σ H6 => Same H4 H6 ∧ ∃ (zs : List V) (v6 v7 v8 v9 v10 : Option V), H6 L = some (.lst zs) ∧ IsDs H6 zs (rowsD Sn.row ((sp.take i).map (namS (posL os n)))) ∧ σ = [some (.ref a), some (.ref p), some (.ref tn), some (.ref hd), some (.ref uo), some (.ref L), v6, v7, v8, v9, v10, none, none, none, none, none]) ⟨S5, [], none, none, none, none, none, h5, .nil, rfl⟩ (fun i σ H6 _ ⟨S6, _⟩ => SqT.of (S6 _ _ hpn4)) ?_ ?_
  · rintro i x σ H6 hx ⟨S6, zs, v6, v7, v8, v9, v10, h6, d6, rfl⟩
    have hi : i < sp.length := by rw [← hl]; exact (List.getElem?_eq_some_iff.mp hx).1
    obtain ⟨q, hq, hq2⟩ := hy i sp[i] (List.getElem?_eq_getElem hi)
    rw [hx] at hq
    cases hq
    have hq3 := S6 _ _ (K4 _ _ hq2)
    have ho6 := S6 _ _ ho4
    obtain ⟨s0, s1, g0, g1⟩ := hE sp[i] (List.getElem_mem hi)
    have lz : zs.length ≤ 40 := by rw [d6.length]; unfold rowsD; rw [List.length_map, List.length_map, List.length_take]; omega
    refine ⟨q, _, rfl, SqT.of hq3, rfl, _, _, rfl, _, _, rfl, _, _, rfl, _, _, rfl, _, _, rfl, rfl, ?_⟩
    refine ⟨_, rfl, .inl ⟨rfl, _, SqL.of h6⟩, _, rfl, ⟨uo, _, rfl, ho6⟩, _, rfl, uo, os, sp[i].s, os.idxOf sp[i].s, rfl, rfl, SqT.of ho6, ho.at s0 s1, fun j hj => ho.first hj, _, rfl, ⟨uo, _, rfl, ho6⟩, _, rfl, uo, os, sp[i].g, os.idxOf sp[i].g, rfl, rfl, SqT.of ho6, ho.at g0 g1, fun j hj => ho.first hj, _, rfl, _, rfl, _, rfl, (by show 5 ≤ sizeLine; decide), fun qa HA SA hA => ?_⟩
    have eN : namS (posL os n) sp[i] = ⟨((os.idxOf sp[i].s : Nat) : Int), ((os.idxOf sp[i].g : Nat) : Int), sp[i].l, sp[i].o, sp[i].w⟩ := by
      unfold namS
      rw [posL_tm _ s0 s1, posL_tm _ g0 g1]; rfl
    have hA : HA qa = some (.tup ((namS (posL os n) sp[i]).row.map V.int)) := by rw [hA, eN]; rfl
    refine ⟨L, zs, _, rfl, rfl, SA _ _ h6, (Nat.lt_of_lt_of_le (by omega : zs.length < 1000) (by decide : 1000 ≤ sizeLine)), ?_⟩
    have KC : TupK HA (upd HA L (.lst (zs ++ [.ref qa]))) := tupK_upd (SA _ _ h6)
    refine ⟨fun c o e => ?_, zs ++ [.ref qa], _, _, _, _, _, upd_same, ?_, rfl⟩
    · rw [upd_ne (fun z => by rw [z, hL] at e; cases e)]
      exact SA _ _ (S6 _ _ e)
    · unfold rowsD
      rw [List.take_add_one, List.getElem?_eq_getElem hi, List.map_append, List.map_append]
      exact (rows_keep (f := Sn.row) KC (d6.same SA)).append (.cons (.tup (KC _ _ hA) (IsDs.ints (namS (posL os n) sp[i]).row)) .nil)
  rintro σ H6 ⟨S6, zs6, v6, v7, v8, v9, v10, h6, d6, rfl⟩
  rw [hl, List.take_length] at d6
  clear h5 S5 H5
  have ht6 := S6 _ _ ht4
  have ho6 := S6 _ _ ho4
  -- found
  refine ⟨_, rfl, _, rfl, .ref tn, uo, b, n, sp, os, rfl, hv4.same S6, ho6, ho, hn16, hE, by omega, fun uf H7 S7 hf => ?_⟩
  obtain ⟨tf, pf, yf, rfl, htf, _⟩ := netP_of hf
  -- back
  refine ⟨_, rfl, tn, _, _, _, rfl, rfl, SqT.of (S7 _ _ ht6), atI_nat (j := 1) rfl, (n : Int), rfl, by omega, by omega, ?_⟩
  refine comp_range (n := ((n : Int)).toNat) (fun i zs HB2 => HB2 = H7 ∧ zs = (((rgI n).take i).map (posI os)).map V.int) ⟨rfl, rfl⟩ (fun i zs HB2 hi ⟨_, e2⟩ => by rw [e2, List.length_map, List.length_map, List.length_take]; omega) (small_le (by omega)) (fun i zs HB2 hi ⟨e1, e2⟩ => ?_) (fun zs HB2 ⟨e1, e2⟩ D hD => ?_)
  · subst e1
    have hi' : i < n := by omega
    have zi : (0 : Int) + (i : Nat) = (i : Nat) := Int.zero_add _
    rw [zi]
    refine tNoIf_go ?_
    refine ⟨_, rfl, ⟨uo, _, rfl, (S7 _ _ ho6)⟩, _, rfl, uo, os, (i : Int), os.idxOf (i : Int), rfl, rfl, SqT.of (S7 _ _ ho6), ho.at (by omega) (by omega), fun j hj => ho.first hj, rfl, ?_⟩
    rw [e2, List.take_add_one, rgI_at hi', List.map_append, List.map_append]; rfl
  subst e1
  have e3 : zs = (posL os n).map V.int := by rw [e2]; unfold posL; rw [List.take_of_length_le (by rw [rgI_len]; omega)]
  subst e3
  refine ⟨D, _, rfl, SqL.of upd_same, fun ub H8 S8 h8 => ?_⟩
  have S28 : Same HB2 H8 := (Same.put (Same.refl HB2) hD).trans S8
  -- rising
  have S68 := S7.trans S28
  refine ⟨_, rfl, tn, _, _, _, rfl, rfl, SqT.of (S68 _ _ ht6), atI_nat (j := 1) rfl, (n : Int), rfl, fun q9 H9 S9 h9 => ⟨q9, n, rfl, h9, by omega, fun ur HA SA hA => ?_⟩⟩
  rw [rg_vals] at hA
  have S6A := S68.trans (S9.trans SA)
  have S7A := S28.trans (S9.trans SA)
  have htA := S6A _ _ ht6
  have hfA := hf.same S7A
  have htfA := S7A _ _ htf
  have hubA := SA _ _ (S9 _ _ h8)
  have hvA := (hv4.same S6).same S6A
  have hoA := S6A _ _ ho6
  -- is it the net
  refine ⟨_, rfl, _, rfl, tn, _, _, _, rfl, rfl, SqT.of htA, atI_nat (j := 0) rfl, _, rfl, tn, _, _, _, rfl, rfl, SqT.of htA, atI_nat (j := 1) rfl, _, rfl, L, _, rfl, SqL.of (S6A _ _ h6), fun pB HB SB hB => ⟨(by show 3 ≤ sizeLine; decide), fun tC HC SC hC => ?_⟩⟩
  have hdue : IsD HC (.ref tC) (netP b (n : Int) (sp.map (namS (posL os n)))) := .tup hC (.cons (.int _) (.cons (.int _) (.cons (.tup (SC _ _ hB) (d6.same (S6A.trans (SB.trans SC)))) .nil)))
  have SAC := SB.trans SC
  refine ⟨.ref tf, .ref tC, b, (n : Int), sp.map (namS (posL os n)), rfl, hfA.same SAC, hdue, by rw [List.length_map]; exact few, fun HD SD => ⟨_, rfl, iteC (by rfl) ?_⟩⟩
  have SAD := SAC.trans SD
  refine ⟨_, rfl, _, rfl, .ref tf, ub, b, n, sp.map (namS (posL os n)), posL os n, rfl, hfA.same SAD, SAD _ _ hubA, ho.back, hn16, hE.nam ho, by rw [List.length_map]; omega, fun ug HE SE hg => ?_⟩
  have SAE := SAD.trans SE
  refine ⟨_, rfl, _, _, hg, hvA.same SAE, pls_netP _ _ _, pls_netP _ _ _, deps_netP _ _ _, _, rfl, iteC (by rw [nam_back ho hE, eqDs_refl _ (pls_netP b (n : Int) sp)]; rfl) ?_⟩
  refine ⟨_, rfl, _, rfl, .ref tn, ur, b, n, sp, rgI n, rfl, hvA.same SAE, SAE _ _ hA, Ord.rg n, hn16, hE, by omega, fun uh HF SF hh => ?_⟩
  have SAF := SAE.trans SF
  refine ⟨_, rfl, _, _, hh, hvA.same SAF, pls_netP _ _ _, pls_netP _ _ _, deps_netP _ _ _, _, rfl, iteC (by rw [nam_rg hE, eqDs_refl _ (pls_netP b (n : Int) sp)]; rfl) ?_⟩
  -- the tables
  have S4F : Same H4 HF := S6.trans (S6A.trans SAF)
  refine ⟨_, rfl, _, rfl, _, rfl, p, tn, b, (n : Int), _, rfl, hdk4.same S4F, S4F _ _ ht4, b1, hb61, by omega, m2, fun ud ts2 HI MI hI lI allI => ?_⟩
  have KI : TupK HF HI := Md.tupK (hdk4.same S4F) MI
  refine ⟨(by show 2 ≤ sizeLine; decide), fun LB HX SX hX => ⟨LB, rfl, ⟨_, SqL.of hX⟩, ?_⟩⟩
  have KX : TupK HF HX := KI.trans (Same.tupK SX)
  have hvX : IsD HX (.ref tn) (netP b (n : Int) sp) := netP_keepM KX (hvA.same SAF)
  have hfX : IsD HX (.ref tf) (netP b (n : Int) (sp.map (namS (posL os n)))) := netP_keepM KX (hfA.same SAF)
  have htX := KX _ _ (SAF _ _ htA)
  have htfX := KX _ _ (SAF _ _ htfA)
  have hoX := KX _ _ (SAF _ _ hoA)
  have hubX := KX _ _ (SAF _ _ hubA)
  have hurX := KX _ _ (SAF _ _ hA)
  have hhX : HX hd = some (.tup (hs.map V.int)) := KX _ _ (S4F _ _ hhs4)
  have hIX : HX ud = some (.tup (ts2.map V.int)) := SX _ _ hI
  refine for_list (K := K) (xs := [.ref hd, .ref ud]) (fun i σ HY => Same HX HY ∧ ∃ v14 v15, σ = [some (.ref a), some (.ref p), some (.ref tn), some (.ref hd), some (.ref uo), some (.ref L), v6, v7, v8, v9, v10, some (.ref tf), some (.ref ub), some (.ref ur), v14, v15]) ⟨Same.refl HX, none, none, rfl⟩ (fun i σ HY _ ⟨SY, _⟩ => SqL.of (SY _ _ hX)) ?_ ?_
  · rintro i x σ HY hx ⟨SY, v14, v15, rfl⟩
    obtain ⟨u, ts, rfl, hu, hlu, hau⟩ : ∃ (u : Addr) (ts : List Int), x = .ref u ∧ HX u = some (.tup (ts.map V.int)) ∧ (ts.length : Int) = (n : Int) ∧ ∀ i ∈ ts, 0 ≤ i ∧ i < b := by
      match i, hx with
      | 0, hx => cases hx; exact ⟨hd, hs, rfl, hhX, hlh, hall⟩
      | 1, hx => cases hx; exact ⟨ud, ts2, rfl, hIX, lI, allI⟩
      | (j + 2), hx => simp at hx
    have hln : ts.length = n := by omega
    have R := N.rdy (ts := ts) hlu
    have huY := SY _ _ hu
    have lP : (permT ts os).length = n := by rw [permT_len, ho.len]
    refine ⟨_, rfl, _, rfl, _, rfl, tn, u, uo, n, ts, os, rfl, ⟨⟨b, _, SY _ _ htX⟩, SY _ _ hoX, ho, hn16⟩, huY, hln, fun pt HZ SZ hZ => ?_⟩
    -- there
    refine ⟨_, rfl, _, rfl, uo, rfl, ⟨_, SqT.of (SZ _ _ (SY _ _ hoX))⟩, ?_⟩
    refine comp_tup (K := K) (a := uo) (xs := os.map V.int) (fun i zs HJ => HJ = HZ ∧ zs = (permT ts (os.take i)).map V.int) ⟨rfl, rfl⟩ (fun i zs HJ hi ⟨e1, e2⟩ => ?_) (by rw [List.length_map, ho.len]; exact small_le (by omega)) (fun i x zs HJ hx ⟨e1, e2⟩ => ?_) (fun zs HJ ⟨e1, e2⟩ DJ hDJ => ?_)
    · subst e1
      exact ⟨SqT.of (SZ _ _ (SY _ _ hoX)), by rw [e2, List.length_map, permT_len, List.length_take]; omega⟩
    · subst e1
      rw [List.getElem?_map] at hx
      obtain ⟨m', em, rfl⟩ := Option.map_eq_some_iff.mp hx
      obtain ⟨c0, c1⟩ := ho.mem.mp (List.mem_of_getElem? em)
      refine tNoIf_go ?_
      refine ⟨_, rfl, _, rfl, u, _, _, _, rfl, rfl, SqT.of (SZ _ _ huY), tm_at c0 (by omega), rfl, ?_⟩
      rw [e2]; unfold permT
      rw [List.take_add_one, em, List.map_append, List.map_append]; rfl
    subst e1
    have e3 : zs = (permT ts os).map V.int := by rw [e2, List.length_map, List.take_length]
    subst e3
    refine ⟨DJ, _, rfl, SqL.of upd_same, fun pL HL SL hL' => ?_⟩
    have SZL : Same HJ HL := (Same.put (Same.refl HJ) hDJ).trans SL
    refine ⟨pt, pL, permT ts os, rfl, SZL _ _ hZ, hL', by omega, fun HM SM => ⟨_, rfl, iteC (by rfl) ?_⟩⟩
    have SYM : Same HY HM := SZ.trans (SZL.trans SM)
    have SXM := SY.trans SYM
    have hptM := SM _ _ (SZL _ _ hZ)
    -- the waits
    refine ⟨_, rfl, _, rfl, .ref tf, pt, b, (n : Int), sp.map (namS (posL os n)), permT ts os, rfl, hfX.same SXM, hptM, R.nam ho hE, fun q1 HO SO hO => ?_⟩
    refine ⟨_, rfl, _, rfl, .ref tn, u, b, (n : Int), sp, ts, rfl, (hvX.same SXM).same SO, SO _ _ (SXM _ _ hu), R, fun q2 HP SP hP => ?_⟩
    refine ⟨q1, q2, _, _, rfl, rfl, SqL.of (SP _ _ hO), SqL.of hP, _, rfl, iteC (by rw [decide_eq_true (waitsM_nam ho hE)]; rfl) ?_⟩
    have SMP := SO.trans SP
    have SXP := SXM.trans SMP
    -- back again
    refine ⟨_, rfl, _, rfl, _, rfl, tf, pt, ub, n, permT ts os, posL os n, rfl, ⟨⟨b, _, SXP _ _ htfX⟩, SXP _ _ hubX, ho.back, hn16⟩, SMP _ _ hptM, lP, fun q3 HQ SQ hQ => ?_⟩
    have SXQ := SXP.trans SQ
    refine ⟨_, rfl, _, _, .tup hQ (IsDs.ints _), .tup (SXQ _ _ hu) (IsDs.ints _), pls_ints _, pls_ints _, (by rw [deps_ints]; decide), _, rfl, iteC (by rw [eqDs_ints, decide_eq_true (perm_back ho hln)]; rfl) ?_⟩
    refine ⟨_, rfl, _, rfl, _, rfl, tn, u, ur, n, ts, rgI n, rfl, ⟨⟨b, _, SXQ _ _ htX⟩, SXQ _ _ hurX, Ord.rg n, hn16⟩, SXQ _ _ hu, hln, fun q4 HR SR hR => ?_⟩
    have SXR := SXQ.trans SR
    refine ⟨_, rfl, _, _, .tup hR (IsDs.ints _), .tup (SXR _ _ hu) (IsDs.ints _), pls_ints _, pls_ints _, (by rw [deps_ints]; decide), _, rfl, iteC (by rw [eqDs_ints, decide_eq_true (perm_rg hln)]; rfl) ?_⟩
    exact ⟨SXR, _, _, rfl⟩
  · rintro σ HY ⟨SY, v14, v15, rfl⟩
    exact k HY
end
end HN

/-! What the top has written, and the law's own head. -/
namespace HN
open PySem L2 PyProof.Rows
theorem args1 {P : List Value → Prop} (h : ∀ x0, P [x0]) : ∀ us : List Value, us.length = 1 → P us := by
  intro us hl
  obtain _ | ⟨x0, us⟩ := us <;> try (cases hl; done)
  obtain _ | ⟨y, us⟩ := us
  · exact h x0
  · exact absurd hl (by simp only [List.length_cons]; omega)
theorem args2 {P : List Value → Prop} (h : ∀ x0 x1, P [x0, x1]) : ∀ us : List Value, us.length = 2 → P us := by
  intro us hl
  obtain _ | ⟨x0, us⟩ := us <;> try (cases hl; done)
  obtain _ | ⟨x1, us⟩ := us <;> try (cases hl; done)
  obtain _ | ⟨y, us⟩ := us
  · exact h x0 x1
  · exact absurd hl (by simp only [List.length_cons]; omega)
theorem args3 {P : List Value → Prop} (h : ∀ x0 x1 x2, P [x0, x1, x2]) : ∀ us : List Value, us.length = 3 → P us := by
  intro us hl
  obtain _ | ⟨x0, us⟩ := us <;> try (cases hl; done)
  obtain _ | ⟨x1, us⟩ := us <;> try (cases hl; done)
  obtain _ | ⟨x2, us⟩ := us <;> try (cases hl; done)
  obtain _ | ⟨y, us⟩ := us
  · exact h x0 x1 x2
  · exact absurd hl (by simp only [List.length_cons]; omega)
theorem args5 {P : List Value → Prop} (h : ∀ x0 x1 x2 x3 x4, P [x0, x1, x2, x3, x4]) : ∀ us : List Value, us.length = 5 → P us := by
  intro us hl
  obtain _ | ⟨x0, us⟩ := us <;> try (cases hl; done)
  obtain _ | ⟨x1, us⟩ := us <;> try (cases hl; done)
  obtain _ | ⟨x2, us⟩ := us <;> try (cases hl; done)
  obtain _ | ⟨x3, us⟩ := us <;> try (cases hl; done)
  obtain _ | ⟨x4, us⟩ := us <;> try (cases hl; done)
  obtain _ | ⟨y, us⟩ := us
  · exact h x0 x1 x2 x3 x4
  · exact absurd hl (by simp only [List.length_cons]; omega)
theorem all_mk {l : PySem.W.OpenLaw} {w : World} {K : PySem.W.Frag} {h : Heap} {mg : Str → Option Value} {fa f1 f2 f3 f4 f5 f6 f7 f8 f9 f10 f11 f12 f13 f14 f15 f16 f17 : Addr} (X : K.In h) (G : h.Ns mainGlobals mg) (hfa : mg "law" = some (.ref fa))
    {od1 an1 od2 an2 od3 an3 od4 an4 od5 an5 od6 an6 od7 an7 od8 an8 od9 an9 od10 an10 od11 an11 od12 an12 od13 an13 od14 an14 od15 an15 od16 an16 od17 an17 : Option Addr} {sl1 sl2 sl3 sl4 sl5 sl6 sl7 sl8 sl9 sl10 sl11 sl12 sl13 sl14 sl15 sl16 sl17 : Array (Option Value)} {oc1 kV1 dc1 pm1 cd1 ct1 oc2 kV2 dc2 pm2 cd2 ct2 oc3 kV3 dc3 pm3 cd3 ct3 oc4 kV4 dc4 pm4 cd4 ct4 oc5 kV5 dc5 pm5 cd5 ct5 oc6 kV6 dc6 pm6 cd6 ct6 oc7 kV7 dc7 pm7 cd7 ct7 oc8 kV8 dc8 pm8 cd8 ct8 oc9 kV9 dc9 pm9 cd9 ct9 oc10 kV10 dc10 pm10 cd10 ct10 oc11 kV11 dc11 pm11 cd11 ct11 oc12 kV12 dc12 pm12 cd12 ct12 oc13 kV13 dc13 pm13 cd13 ct13 oc14 kV14 dc14 pm14 cd14 ct14 oc15 kV15 dc15 pm15 cd15 ct15 oc16 kV16 dc16 pm16 cd16 ct16 oc17 kV17 dc17 pm17 cd17 ct17 : Value}
    (a1 : PySem.W.nsIn K mainGlobals "is_whole" = some (some (.ref f1))) (l1 : K.lookup f1 = some ⟨oc1, od1, .func (PySem.W.fnOf "is_whole" "is_whole" (defArgs sWhole) (defBody sWhole) (defScope sWhole) .none kV1 dc1 pm1 an1 cd1 ct1), sl1⟩) (c1 : PySem.W.codeIn K cd1 "is_whole" = true) (k1 : PySem.W.keepIn K (.ref f1) = true)
    (a2 : PySem.W.nsIn K mainGlobals "span_named" = some (some (.ref f2))) (l2 : K.lookup f2 = some ⟨oc2, od2, .func (PySem.W.fnOf "span_named" "span_named" (defArgs sNamed) (defBody sNamed) (defScope sNamed) .none kV2 dc2 pm2 an2 cd2 ct2), sl2⟩) (c2 : PySem.W.codeIn K cd2 "span_named" = true) (k2 : PySem.W.keepIn K (.ref f2) = true)
    (a3 : PySem.W.nsIn K mainGlobals "is_order" = some (some (.ref f3))) (l3 : K.lookup f3 = some ⟨oc3, od3, .func (PySem.W.fnOf "is_order" "is_order" (defArgs sIsOrder) (defBody sIsOrder) (defScope sIsOrder) .none kV3 dc3 pm3 an3 cd3 ct3), sl3⟩) (c3 : PySem.W.codeIn K cd3 "is_order" = true) (k3 : PySem.W.keepIn K (.ref f3) = true)
    (a4 : PySem.W.nsIn K mainGlobals "check_order" = some (some (.ref f4))) (l4 : K.lookup f4 = some ⟨oc4, od4, .func (PySem.W.fnOf "check_order" "check_order" (defArgs sCheckO) (defBody sCheckO) (defScope sCheckO) .none kV4 dc4 pm4 an4 cd4 ct4), sl4⟩) (c4 : PySem.W.codeIn K cd4 "check_order" = true) (k4 : PySem.W.keepIn K (.ref f4) = true)
    (a5 : PySem.W.nsIn K mainGlobals "named_anew" = some (some (.ref f5))) (l5 : K.lookup f5 = some ⟨oc5, od5, .func (PySem.W.fnOf "named_anew" "named_anew" (defArgs sNamedA) (defBody sNamedA) (defScope sNamedA) .none kV5 dc5 pm5 an5 cd5 ct5), sl5⟩) (c5 : PySem.W.codeIn K cd5 "named_anew" = true) (k5 : PySem.W.keepIn K (.ref f5) = true)
    (a6 : PySem.W.nsIn K mainGlobals "table_named_anew" = some (some (.ref f6))) (l6 : K.lookup f6 = some ⟨oc6, od6, .func (PySem.W.fnOf "table_named_anew" "table_named_anew" (defArgs sTabNam) (defBody sTabNam) (defScope sTabNam) .none kV6 dc6 pm6 an6 cd6 ct6), sl6⟩) (c6 : PySem.W.codeIn K cd6 "table_named_anew" = true) (k6 : PySem.W.keepIn K (.ref f6) = true)
    (a7 : PySem.W.nsIn K mainGlobals "_law_numbers" = some (some (.ref f7))) (l7 : K.lookup f7 = some ⟨oc7, od7, .func (PySem.W.fnOf "_law_numbers" "_law_numbers" (defArgs sNums) (defBody sNums) (defScope sNums) .none kV7 dc7 pm7 an7 cd7 ct7), sl7⟩) (c7 : PySem.W.codeIn K cd7 "_law_numbers" = true) (k7 : PySem.W.keepIn K (.ref f7) = true)
    (a8 : PySem.W.nsIn K mainGlobals "_law_draw" = some (some (.ref f8))) (l8 : K.lookup f8 = some ⟨oc8, od8, .func (PySem.W.fnOf "_law_draw" "_law_draw" (defArgs sDrawD) (defBody sDrawD) (defScope sDrawD) .none kV8 dc8 pm8 an8 cd8 ct8), sl8⟩) (c8 : PySem.W.codeIn K cd8 "_law_draw" = true) (k8 : PySem.W.keepIn K (.ref f8) = true)
    (a9 : PySem.W.nsIn K mainGlobals "_law_span" = some (some (.ref f9))) (l9 : K.lookup f9 = some ⟨oc9, od9, .func (PySem.W.fnOf "_law_span" "_law_span" (defArgs sSpanD) (defBody sSpanD) (defScope sSpanD) .none kV9 dc9 pm9 an9 cd9 ct9), sl9⟩) (c9 : PySem.W.codeIn K cd9 "_law_span" = true) (k9 : PySem.W.keepIn K (.ref f9) = true)
    (a10 : PySem.W.nsIn K mainGlobals "_law_net" = some (some (.ref f10))) (l10 : K.lookup f10 = some ⟨oc10, od10, .func (PySem.W.fnOf "_law_net" "_law_net" (defArgs sNetD) (defBody sNetD) (defScope sNetD) .none kV10 dc10 pm10 an10 cd10 ct10), sl10⟩) (c10 : PySem.W.codeIn K cd10 "_law_net" = true) (k10 : PySem.W.keepIn K (.ref f10) = true)
    (a11 : PySem.W.nsIn K mainGlobals "_law_waits" = some (some (.ref f11))) (l11 : K.lookup f11 = some ⟨oc11, od11, .func (PySem.W.fnOf "_law_waits" "_law_waits" (defArgs sWaitsN) (defBody sWaitsN) (defScope sWaitsN) .none kV11 dc11 pm11 an11 cd11 ct11), sl11⟩) (c11 : PySem.W.codeIn K cd11 "_law_waits" = true) (k11 : PySem.W.keepIn K (.ref f11) = true)
    (a12 : PySem.W.nsIn K mainGlobals "_law_whole" = some (some (.ref f12))) (l12 : K.lookup f12 = some ⟨oc12, od12, .func (PySem.W.fnOf "_law_whole" "_law_whole" (defArgs sWholeL) (defBody sWholeL) (defScope sWholeL) .none kV12 dc12 pm12 an12 cd12 ct12), sl12⟩) (c12 : PySem.W.codeIn K cd12 "_law_whole" = true) (k12 : PySem.W.keepIn K (.ref f12) = true)
    (a13 : PySem.W.nsIn K mainGlobals "_law_is_net" = some (some (.ref f13))) (l13 : K.lookup f13 = some ⟨oc13, od13, .func (PySem.W.fnOf "_law_is_net" "_law_is_net" (defArgs sIsNet) (defBody sIsNet) (defScope sIsNet) .none kV13 dc13 pm13 an13 cd13 ct13), sl13⟩) (c13 : PySem.W.codeIn K cd13 "_law_is_net" = true) (k13 : PySem.W.keepIn K (.ref f13) = true)
    (a14 : PySem.W.nsIn K mainGlobals "_law_is_table" = some (some (.ref f14))) (l14 : K.lookup f14 = some ⟨oc14, od14, .func (PySem.W.fnOf "_law_is_table" "_law_is_table" (defArgs sIsTab) (defBody sIsTab) (defScope sIsTab) .none kV14 dc14 pm14 an14 cd14 ct14), sl14⟩) (c14 : PySem.W.codeIn K cd14 "_law_is_table" = true) (k14 : PySem.W.keepIn K (.ref f14) = true)
    (a15 : PySem.W.nsIn K mainGlobals "_law_drawn_table" = some (some (.ref f15))) (l15 : K.lookup f15 = some ⟨oc15, od15, .func (PySem.W.fnOf "_law_drawn_table" "_law_drawn_table" (defArgs sDrawnT) (defBody sDrawnT) (defScope sDrawnT) .none kV15 dc15 pm15 an15 cd15 ct15), sl15⟩) (c15 : PySem.W.codeIn K cd15 "_law_drawn_table" = true) (k15 : PySem.W.keepIn K (.ref f15) = true)
    (a16 : PySem.W.nsIn K mainGlobals "_law_order" = some (some (.ref f16))) (l16 : K.lookup f16 = some ⟨oc16, od16, .func (PySem.W.fnOf "_law_order" "_law_order" (defArgs sOrderL) (defBody sOrderL) (defScope sOrderL) .none kV16 dc16 pm16 an16 cd16 ct16), sl16⟩) (c16 : PySem.W.codeIn K cd16 "_law_order" = true) (k16 : PySem.W.keepIn K (.ref f16) = true)
    (a17 : PySem.W.nsIn K mainGlobals "law" = some (some (.ref f17))) (l17 : K.lookup f17 = some ⟨oc17, od17, .func (PySem.W.fnOf "law" "law" (defArgs sLaw) (defBody sLaw) (defScope sLaw) .none kV17 dc17 pm17 an17 cd17 ct17), sl17⟩) (c17 : PySem.W.codeIn K cd17 "law" = true) (k17 : PySem.W.keepIn K (.ref f17) = true)
    (z1 : PySem.W.nsIn K mainGlobals "isinstance" = some none)
    (z2 : PySem.W.nsIn K mainGlobals "int" = some none)
    (z3 : PySem.W.nsIn K mainGlobals "bool" = some none)
    (z4 : PySem.W.nsIn K mainGlobals "tuple" = some none)
    (z5 : PySem.W.nsIn K mainGlobals "len" = some none)
    (z6 : PySem.W.nsIn K mainGlobals "min" = some none)
    (z7 : PySem.W.nsIn K mainGlobals "all" = some none)
    (z8 : PySem.W.nsIn K mainGlobals "range" = some none)
    (z9 : PySem.W.nsIn K mainGlobals "enumerate" = some none)
    (z10 : PySem.W.nsIn K mainGlobals "zip" = some none)
    (z11 : PySem.W.nsIn K mainGlobals "sum" = some none)
    (z12 : PySem.W.nsIn K mainGlobals "list" = some none)
    (z13 : PySem.W.nsIn K mainGlobals "max" = some none)
    (z14 : PySem.W.nsIn K mainGlobals "sorted" = some none)
    : ∃ fd : FuncData, (∀ (s : Shared) (v : Value), BindsTo s fd ⟨[v], []⟩ [("_law_script", v)]) ∧ ∀ base : Heap, K.In base → base.Ns mainGlobals mg → FnOk l.prog w K mg base CX0 5 fa fd ["_law_script"] (spLaw K) := by
  have e := hfa.symm.trans (PySem.W.mg_of X G a17)
  cases e
  have F1 := fun_mk (st := sWhole) l1 c1 k1
  have b1 := F1.binds (ps := ["thing"]) fun _ _ _ _ _ _ => args1 fun _ => rfl
  have G1 : Fn K mg "is_whole" sWhole ["thing"] f1 _ := ⟨F1, PySem.W.mg_of X G a1, b1⟩
  have F2 := fun_mk (st := sNamed) l2 c2 k2
  have b2 := F2.binds (ps := ["span", "names"]) fun _ _ _ _ _ _ => args2 fun _ _ => rfl
  have G2 : Fn K mg "span_named" sNamed ["span", "names"] f2 _ := ⟨F2, PySem.W.mg_of X G a2, b2⟩
  have F3 := fun_mk (st := sIsOrder) l3 c3 k3
  have b3 := F3.binds (ps := ["net", "thing"]) fun _ _ _ _ _ _ => args2 fun _ _ => rfl
  have G3 : Fn K mg "is_order" sIsOrder ["net", "thing"] f3 _ := ⟨F3, PySem.W.mg_of X G a3, b3⟩
  have F4 := fun_mk (st := sCheckO) l4 c4 k4
  have b4 := F4.binds (ps := ["net", "order"]) fun _ _ _ _ _ _ => args2 fun _ _ => rfl
  have G4 : Fn K mg "check_order" sCheckO ["net", "order"] f4 _ := ⟨F4, PySem.W.mg_of X G a4, b4⟩
  have F5 := fun_mk (st := sNamedA) l5 c5 k5
  have b5 := F5.binds (ps := ["net", "order"]) fun _ _ _ _ _ _ => args2 fun _ _ => rfl
  have G5 : Fn K mg "named_anew" sNamedA ["net", "order"] f5 _ := ⟨F5, PySem.W.mg_of X G a5, b5⟩
  have F6 := fun_mk (st := sTabNam) l6 c6 k6
  have b6 := F6.binds (ps := ["net", "table", "order"]) fun _ _ _ _ _ _ => args3 fun _ _ _ => rfl
  have G6 : Fn K mg "table_named_anew" sTabNam ["net", "table", "order"] f6 _ := ⟨F6, PySem.W.mg_of X G a6, b6⟩
  have F7 := fun_mk (st := sNums) l7 c7 k7
  have b7 := F7.binds (ps := ["_law_script", "_law_most"]) fun _ _ _ _ _ _ => args2 fun _ _ => rfl
  have G7 : Fn K mg "_law_numbers" sNums ["_law_script", "_law_most"] f7 _ := ⟨F7, PySem.W.mg_of X G a7, b7⟩
  have F8 := fun_mk (st := sDrawD) l8 c8 k8
  have b8 := F8.binds (ps := ["_law_deck", "_law_most"]) fun _ _ _ _ _ _ => args2 fun _ _ => rfl
  have G8 : Fn K mg "_law_draw" sDrawD ["_law_deck", "_law_most"] f8 _ := ⟨F8, PySem.W.mg_of X G a8, b8⟩
  have F9 := fun_mk (st := sSpanD) l9 c9 k9
  have b9 := F9.binds (ps := ["_law_deck", "_law_beat", "_law_many", "_law_hidden", "_law_kept"]) fun _ _ _ _ _ _ => args5 fun _ _ _ _ _ => rfl
  have G9 : Fn K mg "_law_span" sSpanD ["_law_deck", "_law_beat", "_law_many", "_law_hidden", "_law_kept"] f9 _ := ⟨F9, PySem.W.mg_of X G a9, b9⟩
  have F10 := fun_mk (st := sNetD) l10 c10 k10
  have b10 := F10.binds (ps := ["_law_deck", "_law_most", "_law_beats", "_law_size", "_law_great"]) fun _ _ _ _ _ _ => args5 fun _ _ _ _ _ => rfl
  have G10 : Fn K mg "_law_net" sNetD ["_law_deck", "_law_most", "_law_beats", "_law_size", "_law_great"] f10 _ := ⟨F10, PySem.W.mg_of X G a10, b10⟩
  have F11 := fun_mk (st := sWaitsN) l11 c11 k11
  have b11 := F11.binds (ps := ["_law_net_here", "_law_table"]) fun _ _ _ _ _ _ => args2 fun _ _ => rfl
  have G11 : Fn K mg "_law_waits" sWaitsN ["_law_net_here", "_law_table"] f11 _ := ⟨F11, PySem.W.mg_of X G a11, b11⟩
  have F12 := fun_mk (st := sWholeL) l12 c12 k12
  have b12 := F12.binds (ps := ["_law_found"]) fun _ _ _ _ _ _ => args1 fun _ => rfl
  have G12 : Fn K mg "_law_whole" sWholeL ["_law_found"] f12 _ := ⟨F12, PySem.W.mg_of X G a12, b12⟩
  have F13 := fun_mk (st := sIsNet) l13 c13 k13
  have b13 := F13.binds (ps := ["_law_found", "_law_due"]) fun _ _ _ _ _ _ => args2 fun _ _ => rfl
  have G13 : Fn K mg "_law_is_net" sIsNet ["_law_found", "_law_due"] f13 _ := ⟨F13, PySem.W.mg_of X G a13, b13⟩
  have F14 := fun_mk (st := sIsTab) l14 c14 k14
  have b14 := F14.binds (ps := ["_law_found", "_law_due"]) fun _ _ _ _ _ _ => args2 fun _ _ => rfl
  have G14 : Fn K mg "_law_is_table" sIsTab ["_law_found", "_law_due"] f14 _ := ⟨F14, PySem.W.mg_of X G a14, b14⟩
  have F15 := fun_mk (st := sDrawnT) l15 c15 k15
  have b15 := F15.binds (ps := ["_law_deck", "_law_net_here"]) fun _ _ _ _ _ _ => args2 fun _ _ => rfl
  have G15 : Fn K mg "_law_drawn_table" sDrawnT ["_law_deck", "_law_net_here"] f15 _ := ⟨F15, PySem.W.mg_of X G a15, b15⟩
  have F16 := fun_mk (st := sOrderL) l16 c16 k16
  have b16 := F16.binds (ps := ["_law_deck", "_law_many"]) fun _ _ _ _ _ _ => args2 fun _ _ => rfl
  have G16 : Fn K mg "_law_order" sOrderL ["_law_deck", "_law_many"] f16 _ := ⟨F16, PySem.W.mg_of X G a16, b16⟩
  have F17 := fun_mk (st := sLaw) l17 c17 k17
  have m1 := PySem.W.mg_none_of X G z1
  have m2 := PySem.W.mg_none_of X G z2
  have m3 := PySem.W.mg_none_of X G z3
  have m4 := PySem.W.mg_none_of X G z4
  have m5 := PySem.W.mg_none_of X G z5
  have m6 := PySem.W.mg_none_of X G z6
  have m7 := PySem.W.mg_none_of X G z7
  have m8 := PySem.W.mg_none_of X G z8
  have m9 := PySem.W.mg_none_of X G z9
  have m10 := PySem.W.mg_none_of X G z10
  have m11 := PySem.W.mg_none_of X G z11
  have m12 := PySem.W.mg_none_of X G z12
  have m13 := PySem.W.mg_none_of X G z13
  have m14 := PySem.W.mg_none_of X G z14
  refine ⟨PySem.W.fnOf "law" "law" (defArgs sLaw) (defBody sLaw) (defScope sLaw) .none kV17 dc17 pm17 an17 cd17 ct17, fun s v => .of_eq rfl, fun base _ _ => ?_⟩
  have T : Nm mg := ⟨m1, m2, m3, m4, m5, m6, m7⟩
  have T2 : Nt mg := ⟨m8, m9, m10, m11, m12, m13⟩
  have IO : FnOk l.prog w K mg base CX0 2 f3 _ ["net", "thing"] spIsOrder := ok_isOrder F3 T T2 m14 G1
  have CO : FnOk l.prog w K mg base CX0 3 f4 _ ["net", "order"] spCheckO := ok_checkO F4 G3 IO
  exact ok_law F17 T T2 G7 G10 (ok_netD F10 T T2 G8 G9) G16 (ok_orderL F16 T T2 G8) G5 (ok_namedA F5 T T2 G4 CO G2) G13 (ok_isNet F13 T T2 G12) G15 (ok_drawnT F15 T T2 G8) G6 (ok_tabNam F6 T G4 CO) G14 (ok_isTab F14 T G12) G11
theorem walk {l : PySem.W.OpenLaw} {q : Program} {loose : List Str} {XP : (Str → Option Value) → Heap → Prop} {YP : World → Heap → Prop} {d : DefRec} {K : Params → PySem.W.Frag} (hn : l.most = some 63) (hdf : d.params.defaults = [])
    (hY : ∀ (w : World) (h : Heap), YP w h → (K w.params).In h)
    (F : ∀ (w : World) (mg : Str → Option Value) (fa : Addr) (h : Heap), (K w.params).In h → h.Ns mainGlobals mg → mg d.name = some (.ref fa) →
      ∃ fd : FuncData, (∀ (s : Shared) (u : Value), BindsTo s fd ⟨[u], []⟩ [("_law_script", u)]) ∧ ∀ base : Heap, (K w.params).In base → base.Ns mainGlobals mg → FnOk l.prog w (K w.params) mg base CX0 5 fa fd ["_law_script"] (spLaw (K w.params))) :
    PySem.W.WalkO q loose XP YP l.row.toRowW d [] (fun f vs => PySem.call f vs) :=
  L2.walk_of (n := 63) (k := 5) (x := "_law_script") (CX := fun _ => CX0) (sp := fun w => spLaw (K w.params)) hn (by decide) hdf ⟨rfl, by decide, by decide⟩ hY F (fun _ _ a ns hl _ hS => ⟨a, ns, rfl, hS, hl, fun _ => rfl⟩) fun _ _ _ _ _ z => z
end HN
open PySem PySem.W PyProof.Rows
set_option maxRecDepth 100000 in
set_option maxHeartbeats 0 in
theorem PySem.Challenge.cw_hourtable_k72_named_anew_holds : PySem.Challenge.rw_hourtable_k72_named_anew.Holds := by
  w_on; o_law; k_head; (case hw => w_witness2)
  k_fill
  refine HN.walk (l := PySem.Challenge.rw_hourtable_k72_named_anew) rfl rfl (fun w h Y => PySem.W.kIn_of Y) ?F
  case F =>
    intro w mg fa h KX G hmg
    refine' HN.all_mk KX G hmg ?a1 ?l1 ?c1 ?k1 ?a2 ?l2 ?c2 ?k2 ?a3 ?l3 ?c3 ?k3 ?a4 ?l4 ?c4 ?k4 ?a5 ?l5 ?c5 ?k5 ?a6 ?l6 ?c6 ?k6 ?a7 ?l7 ?c7 ?k7 ?a8 ?l8 ?c8 ?k8 ?a9 ?l9 ?c9 ?k9 ?a10 ?l10 ?c10 ?k10 ?a11 ?l11 ?c11 ?k11 ?a12 ?l12 ?c12 ?k12 ?a13 ?l13 ?c13 ?k13 ?a14 ?l14 ?c14 ?k14 ?a15 ?l15 ?c15 ?k15 ?a16 ?l16 ?c16 ?k16 ?a17 ?l17 ?c17 ?k17 ?z1 ?z2 ?z3 ?z4 ?z5 ?z6 ?z7 ?z8 ?z9 ?z10 ?z11 ?z12 ?z13 ?z14
    (case a1 => k_is); (case l1 => k_is); (case c1 => k_is); (case k1 => k_is)
    (case a2 => k_is); (case l2 => k_is); (case c2 => k_is); (case k2 => k_is)
    (case a3 => k_is); (case l3 => k_is); (case c3 => k_is); (case k3 => k_is)
    (case a4 => k_is); (case l4 => k_is); (case c4 => k_is); (case k4 => k_is)
    (case a5 => k_is); (case l5 => k_is); (case c5 => k_is); (case k5 => k_is)
    (case a6 => k_is); (case l6 => k_is); (case c6 => k_is); (case k6 => k_is)
    (case a7 => k_is); (case l7 => k_is); (case c7 => k_is); (case k7 => k_is)
    (case a8 => k_is); (case l8 => k_is); (case c8 => k_is); (case k8 => k_is)
    (case a9 => k_is); (case l9 => k_is); (case c9 => k_is); (case k9 => k_is)
    (case a10 => k_is); (case l10 => k_is); (case c10 => k_is); (case k10 => k_is)
    (case a11 => k_is); (case l11 => k_is); (case c11 => k_is); (case k11 => k_is)
    (case a12 => k_is); (case l12 => k_is); (case c12 => k_is); (case k12 => k_is)
    (case a13 => k_is); (case l13 => k_is); (case c13 => k_is); (case k13 => k_is)
    (case a14 => k_is); (case l14 => k_is); (case c14 => k_is); (case k14 => k_is)
    (case a15 => k_is); (case l15 => k_is); (case c15 => k_is); (case k15 => k_is)
    (case a16 => k_is); (case l16 => k_is); (case c16 => k_is); (case k16 => k_is)
    (case a17 => k_is); (case l17 => k_is); (case c17 => k_is); (case k17 => k_is)
    (case z1 => k_is)
    (case z2 => k_is)
    (case z3 => k_is)
    (case z4 => k_is)
    (case z5 => k_is)
    (case z6 => k_is)
    (case z7 => k_is)
    (case z8 => k_is)
    (case z9 => k_is)
    (case z10 => k_is)
    (case z11 => k_is)
    (case z12 => k_is)
    (case z13 => k_is)
    (case z14 => k_is)
