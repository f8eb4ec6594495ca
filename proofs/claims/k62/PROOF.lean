import PyProof.Rows.All
import Wide.All
import OpenK.AllK
import Wide.FinOn
import Lean
import PyProof.EqAt
import PyProof.EqKinds
import PyProof.TupleCall
import PySem.Challenge.RW_hourtable_k62_sums_of_spans
set_option Elab.async false
set_option linter.all false
set_option maxRecDepth 100000
set_option maxHeartbeats 4000000
/-! THE HAND LAYER, for ints, bools, texts, own classes, LISTS and tuples (index, slices, in, append, pop ..), calls, loops. Paste it whole ahead of your own text; what your proof does not reach may be deleted. -/
namespace L2
open PySem PySem.Spec PyProof.Rows

/-- a key: an int or a str -/
abbrev Key := Sum Int Str
def keyIs : Key → Value → Bool
  | .inl k, v => Value.isInt k v
  | .inr x, v => Value.isStrOf x v
def keyH (w : World) : Key → Int
  | .inl k => hashInt k
  | .inr x => hashStr w x
theorem keyIs_shape : ∀ {k : Key} {v : Value}, keyIs k v = true → (∃ i t, k = Sum.inl i ∧ v = Value.int i t) ∨ (∃ x t, k = Sum.inr x ∧ v = Value.str x t)
  | .inl i, v, h => by
    obtain ⟨t, e⟩ := Value.isInt_shape (k := i) (v := v) h
    exact .inl ⟨i, t, rfl, e⟩
  | .inr x, v, h => by
    obtain ⟨t, e⟩ := Value.isStrOf_shape (x := x) (v := v) h
    exact .inr ⟨x, t, rfl, e⟩
theorem key_ll (a b : Int) : decide ((Sum.inl a : Key) = Sum.inl b) = (a == b) := by
  by_cases e : a = b
  · subst e; simp
  · have h : ¬ (Sum.inl a : Key) = Sum.inl b := fun q => e (Sum.inl.inj q)
    rw [decide_eq_false h]
    exact (beq_eq_false_iff_ne.mpr e).symm
theorem key_rr (a b : Str) : decide ((Sum.inr a : Key) = Sum.inr b) = decide (a = b) := by
  by_cases e : a = b
  · subst e; simp
  · have h : ¬ (Sum.inr a : Key) = Sum.inr b := fun q => e (Sum.inr.inj q)
    rw [decide_eq_false h, decide_eq_false e]
theorem key_lr (a : Int) (b : Str) : decide ((Sum.inl a : Key) = Sum.inr b) = false := decide_eq_false (fun q => nomatch q)
theorem key_rl (a : Str) (b : Int) : decide ((Sum.inr a : Key) = Sum.inl b) = false := decide_eq_false (fun q => nomatch q)

def mixKind (prog : Program) (w : World) : PySem.KeyKind prog w Key where
  is := keyIs
  hash := keyH w
  inj := fun v a b ha hb => by
    rcases keyIs_shape ha with ⟨i, t, rfl, rfl⟩ | ⟨x, t, rfl, rfl⟩
    · rcases keyIs_shape hb with ⟨j, u, rfl, e⟩ | ⟨y, u, rfl, e⟩
      · injection e with e1 _; rw [e1]
      · exact nomatch e
    · rcases keyIs_shape hb with ⟨j, u, rfl, e⟩ | ⟨y, u, rfl, e⟩
      · exact nomatch e
      · injection e with e1 _; rw [e1]
  byValue := fun k v h => by
    rcases keyIs_shape h with ⟨i, t, rfl, rfl⟩ | ⟨x, t, rfl, rfl⟩ <;> rfl
  pyHash := fun hv h => by
    rcases keyIs_shape hv with ⟨i, t, rfl, rfl⟩ | ⟨x, t, rfl, rfl⟩
    · exact wpAny_pyHash_int h
    · exact wpAny_pyHash_str h
  eqBool := fun hu hv h => by
    rcases keyIs_shape hu with ⟨i, t, rfl, rfl⟩ | ⟨x, t, rfl, rfl⟩
    · rcases keyIs_shape hv with ⟨j, u, rfl, rfl⟩ | ⟨y, u, rfl, rfl⟩
      · rw [key_ll] at h; exact wpAny_eqBool_int h
      · rw [key_lr] at h; exact SeqAt.EqAt.int_str i t y u _ _ _ _ h
    · rcases keyIs_shape hv with ⟨j, u, rfl, rfl⟩ | ⟨y, u, rfl, rfl⟩
      · rw [key_rl] at h; exact SeqAt.EqAt.str_int x t j u _ _ _ _ h
      · rw [key_rr] at h; exact wpAny_eqBool_str h
  «strs» := fun k x t v h => by
    rcases keyIs_shape h with ⟨i, u, rfl, e⟩ | ⟨y, u, rfl, e⟩
    · exact nomatch e
    · injection e with e1 _
      subst e1
      cases v <;> rfl

end L2

namespace L2
open PySem PySem.Spec PyProof.Rows

/-- a value, without the heap -/
inductive V where
  | non | bl (b : Bool) | int (i : Int) | str (x : Str) | byt (b : Array UInt8) | flt (b : UInt64) | ref (a : Addr) | ty (n : String)
  deriving DecidableEq

def RelV : V → Value → Prop
  | .non, u => u = Value.none
  | .bl b, u => u = Value.bool b
  | .int i, u => ∃ t, u = Value.int i t
  | .str x, u => ∃ t, u = Value.str x t
  | .byt b, u => ∃ t, u = Value.bytes b t
  | .flt b, u => ∃ t, u = Value.float b t
  | .ref a, u => u = Value.ref a
  | .ty n, u => u = Value.type n

abbrev Vals : List V → List Value → Prop := Paired RelV
theorem Vals.length {xs : List V} {us : List Value} (r : Vals xs us) : xs.length = us.length := Paired.length r
theorem Vals.get : ∀ {xs : List V} {us : List Value} {i : Nat} {x : V}, Vals xs us → xs[i]? = some x → ∃ u, us[i]? = some u ∧ RelV x u
  | _, _, _, _, .nil, e => by simp at e
  | _, _, 0, _, .cons r _, e => by simp at e; subst e; exact ⟨_, rfl, r⟩
  | _, _, i + 1, x, .cons _ t, e => by
    obtain ⟨u, h1, h2⟩ := Vals.get (i := i) (x := x) t (by simpa using e)
    exact ⟨u, by simpa using h1, h2⟩
theorem Vals.set {x : V} {u : Value} (r : RelV x u) : ∀ {xs : List V} {us : List Value} (i : Nat), Vals xs us → Vals (xs.set i x) (us.set i u)
  | _, _, _, .nil => .nil
  | _, _, 0, .cons _ t => .cons r t
  | _, _, i + 1, .cons q t => .cons q (Vals.set r i t)
theorem Vals.append : ∀ {xs ys : List V} {us ws : List Value}, Vals xs us → Vals ys ws → Vals (xs ++ ys) (us ++ ws)
  | _, _, _, _, .nil, s => s
  | _, _, _, _, .cons r t, s => .cons r (Vals.append t s)
theorem Vals.take : ∀ {xs : List V} {us : List Value} (n : Nat), Vals xs us → Vals (xs.take n) (us.take n)
  | _, _, 0, _ => .nil
  | _, _, _ + 1, .nil => .nil
  | _, _, n + 1, .cons r t => .cons r (Vals.take n t)
theorem Vals.drop : ∀ {xs : List V} {us : List Value} (n : Nat), Vals xs us → Vals (xs.drop n) (us.drop n)
  | _, _, 0, r => r
  | _, _, _ + 1, .nil => .nil
  | _, _, n + 1, .cons _ t => Vals.drop n t
def RelO : Option V → Option Value → Prop
  | some v, some u => RelV v u
  | none, none => True
  | _, _ => False
def KV {κ : Type} : List (κ × V) → List (κ × Value) → Prop := Paired fun (p : κ × V) (q : κ × Value) => p.1 = q.1 ∧ RelV p.2 q.2

/-- a key of a dict (00_mix): an int or a text -/
def kV : Key → V
  | .inl i => .int i
  | .inr x => .str x

/-- what stands at a tracked address -/
inductive HO where
  /-- a list -/
  | lst (xs : List V)
  /-- a tuple (never changes) -/
  | tup (xs : List V)
  /-- a dict whose keys are ints and texts; one whose keys are tuples of ints and texts (the empty one is both) -/
  | dK (kvs : List (Key × V)) | dT (kvs : List (List Key × V))
  /-- a set of ints: its members, its size -/
  | set (S : Int → Bool) (n : Nat)
  /-- an instance of the class at C, its dict at dx, its attributes -/
  | ins (C dx : Addr) (fs : List (Str × V))
  /-- the dict of the instance at x -/
  | own (x : Addr)
  /-- the dict of an exception -/
  | xd (fs : List (Str × V))
  /-- a bound method, f of x -/
  | met (f x : Addr)
  /-- a range object lo, lo + 1, .. below hi -/
  | rng (lo hi : Int)
  /-- a thing that is known to the object (the script; a dict while a loop walks it): read, never written while it is so -/
  | frz (o : Obj) (u : HO)
  /-- a code object's table -/
  | tbl (ps : Array Value)
  /-- any other thing, by what is true of its one object (a def of one's own: SetO a S n := HO.ext fun h => ..) -/
  | ext (φ : Heap → Prop)

abbrev Hp := Addr → Option HO
def upd (H : Hp) (a : Addr) (o : HO) : Hp := fun b => if b = a then some o else H b
theorem upd_same {H : Hp} {a : Addr} {o : HO} : upd H a o a = some o := by unfold upd; rw [if_pos rfl]
theorem upd_ne {H : Hp} {a b : Addr} {o : HO} (h : b ≠ a) : upd H a o b = H b := by unfold upd; rw [if_neg h]
theorem upd_upd {H : Hp} {a : Addr} {o u : HO} : upd (upd H a o) a u = upd H a u := by
  funext b; unfold upd; split <;> rfl
/-- two objects of different content stand apart -/
theorem ne_of {H : Hp} {a b : Addr} {o u : HO} (h : H a = some o) (h' : H b = some u) (d : o ≠ u) : a ≠ b := by
  intro e; subst e; rw [h] at h'; exact d (Option.some.inj h')
theorem ne_of_none {H : Hp} {a b : Addr} {o : HO} (h : H a = some o) (h' : H b = none) : a ≠ b := by
  intro e; subst e; rw [h] at h'; cases h'

/-- a tuple that has no names of its own -/
def IsTupN (h : Heap) (a : Addr) (items : Array Value) : Prop := ∃ o, h.get? a = some o ∧ o.cls = .type "tuple" ∧ o.dict = none ∧ ∃ n, o.data = .seq items n
theorem IsTupN.tup {h : Heap} {a : Addr} {items : Array Value} (p : IsTupN h a items) : IsTup h a items := let ⟨o, e, c, _, n, d⟩ := p; ⟨o, e, c, n, d⟩
theorem IsTupN.lt {h : Heap} {a : Addr} {items : Array Value} (p : IsTupN h a items) : a < h.objs.size := p.tup.lt
theorem IsTupN.new (h : Heap) (items : Array Value) : IsTupN (h.push { cls := .type "tuple", data := .seq items }) h.objs.size items := ⟨_, Heap.get?_push_size _ rfl, rfl, rfl, _, rfl⟩
section
variable (P : Program) (w : World)
def ObjOk (H : Hp) (h : Heap) (a : Addr) : HO → Prop
  | .lst xs => xs.length ≤ sizeLine ∧ ∃ (its : List Value) (n : Nat), Vals xs its ∧ h.get? a = some { cls := .type "list", data := .seq its.toArray n }
  | .tup xs => xs.length ≤ sizeLine ∧ ∃ its : List Value, Vals xs its ∧ IsTupN h a its.toArray
  | .dK kvs => kvs.length ≤ sizeLine ∧ (a == sysModules) = false ∧ ∃ vs, KV kvs vs ∧ h.DictOf (mixKind P w) a vs
  | .dT kvs => kvs.length ≤ sizeLine ∧ (a == sysModules) = false ∧ ∃ xs : List (List Key × Addr × Value),
      Paired (fun (p : List Key × V) (q : List Key × Addr × Value) => p.1 = q.1 ∧ H q.2.1 = some (.tup (p.1.map kV)) ∧ RelV p.2 q.2.2) kvs xs ∧
      ∃ o es ep, h.get? a = some o ∧ o.ExactDict ∧ o.data = .dict es ep ∧ es.toList = xs.map (entryOfKey (tupleKind (mixKind P w))) ∧ (xs.map (·.1)).Nodup
  | .set S n => h.SetOf (intKind P w) a S n
  | .ins C dx fs => H dx = some (.own a) ∧ fs.length ≤ 1000 ∧ dx ≠ a ∧ h.get? a = some (PySem.W.instObj C dx) ∧
      ∃ mA, h.Ns1 dx mA ∧ (∀ f, RelO (fs.lookup f) (mA f)) ∧ PySem.Within mA (fs.map (·.1))
  | .own _ => ∃ o, h.get? a = some o
  | .xd fs => ∃ mA, h.Ns1 a mA ∧ ∀ f, RelO (fs.lookup f) (mA f)
  | .rng lo hi => ∃ t u v, h.get? a = some { cls := .type "range", data := .fields #[.int lo t, .int hi u, .int 1 v] }
  | .frz o u => h.get? a = some o ∧ ObjOk H h a u
  | .tbl ps => h.get? a = some { cls := .none, data := .fields ps }
  | .met f x => h.get? a = some (PySem.W.methodObj (.ref f) (.ref x))
  | .ext φ => φ h ∧ (∃ o, h.get? a = some o) ∧ ∀ h1 h2 : Heap, φ h1 → (∀ o, h1.get? a = some o → h2.get? a = some o) → φ h2
/-- the abstract heap is held -/
def HOk (H : Hp) (h : Heap) : Prop := ∀ a o, H a = some o → ObjOk P w H h a o
end

section
variable {P : Program} {w : World} {H H' : Hp} {h h' : Heap} {a : Addr} {o : HO}
theorem ObjOk.lt (x : ObjOk P w H h a o) : a < h.objs.size := by
  cases o with
  | lst xs => obtain ⟨_, _, _, _, e⟩ := x; exact Heap.lt_size e
  | tup xs => obtain ⟨_, _, _, p⟩ := x; exact p.lt
  | dK kvs => obtain ⟨_, _, _, _, o, _, _, e, _⟩ := x; exact Heap.lt_size e
  | dT kvs => obtain ⟨_, _, _, _, o, _, _, e, _⟩ := x; exact Heap.lt_size e
  | set S n => obtain ⟨o, _, _, _, e, _⟩ := x; exact Heap.lt_size e
  | ins C dx fs => obtain ⟨_, _, _, e, _⟩ := x; exact Heap.lt_size e
  | own y => obtain ⟨_, e⟩ := x; exact Heap.lt_size e
  | xd fs => obtain ⟨_, ⟨_, _, _, e, _⟩, _⟩ := x; exact Heap.lt_size e
  | rng lo hi => obtain ⟨_, _, _, e⟩ := x; exact Heap.lt_size e
  | frz ob u => obtain ⟨e, _⟩ := x; exact Heap.lt_size e
  | tbl ps => exact Heap.lt_size (show h.get? a = some _ from x)
  | met f y => exact Heap.lt_size (show h.get? a = some _ from x)
  | ext φ => obtain ⟨_, ⟨_, e⟩, _⟩ := x; exact Heap.lt_size e
theorem Paired.mapP {α β : Type} {F G : α → β → Prop} : ∀ {l₁ : List α} {l₂ : List β}, Paired F l₁ l₂ → (∀ a b, F a b → G a b) → Paired G l₁ l₂
  | _, _, .nil, _ => .nil
  | _, _, .cons r t, f => .cons (f _ _ r) (Paired.mapP t f)
/-- what an object's description leans on: its own object, its own dict, the tuples -/
theorem ObjOk.stay (x : ObjOk P w H h a o) (k : ∀ b u, (b = a ∨ H b = some (.own a)) → h.get? b = some u → h'.get? b = some u)
    (ho : ∀ b, H b = some (.own a) → H' b = some (.own a)) (ht : ∀ b xs, H b = some (.tup xs) → H' b = some (.tup xs)) : ObjOk P w H' h' a o := by
  induction o with
  | lst xs => obtain ⟨z, its, n, r, e⟩ := x; exact ⟨z, its, n, r, k _ _ (.inl rfl) e⟩
  | tup xs => obtain ⟨z, its, r, ob, e, c⟩ := x; exact ⟨z, its, r, ob, k _ _ (.inl rfl) e, c⟩
  | dK kvs => obtain ⟨z, y, vs, r, ob, es, ep, e, c⟩ := x; exact ⟨z, y, vs, r, ob, es, ep, k _ _ (.inl rfl) e, c⟩
  | dT kvs =>
    obtain ⟨z, y, xs, r, ob, es, ep, e, c⟩ := x
    exact ⟨z, y, xs, Paired.mapP r fun p q z => ⟨z.1, ht _ _ z.2.1, z.2.2⟩, ob, es, ep, k _ _ (.inl rfl) e, c⟩
  | set S n => obtain ⟨ob, es, ep, t, e, c⟩ := x; exact ⟨ob, es, ep, t, k _ _ (.inl rfl) e, c⟩
  | ins C dx fs =>
    obtain ⟨d, z, ne, e, mA, ⟨od, es, ep, e2, c⟩, r⟩ := x
    exact ⟨ho _ d, z, ne, k _ _ (.inl rfl) e, mA, ⟨od, es, ep, k _ _ (.inr d) e2, c⟩, r⟩
  | own y => obtain ⟨ob, e⟩ := x; exact ⟨ob, k _ _ (.inl rfl) e⟩
  | xd fs => obtain ⟨mA, ⟨od, es, ep, e, c⟩, r⟩ := x; exact ⟨mA, ⟨od, es, ep, k _ _ (.inl rfl) e, c⟩, r⟩
  | rng lo hi => obtain ⟨t, u, v, e⟩ := x; exact ⟨t, u, v, k _ _ (.inl rfl) e⟩
  | frz ob u ih => obtain ⟨e, q⟩ := x; exact ⟨k _ _ (.inl rfl) e, ih q⟩
  | tbl ps =>
    have e : h.get? a = some { cls := .none, data := .fields ps } := x
    show h'.get? a = some { cls := .none, data := .fields ps }
    exact k a _ (.inl rfl) e
  | met f y =>
    have e : h.get? a = some (PySem.W.methodObj (.ref f) (.ref y)) := x
    show h'.get? a = some (PySem.W.methodObj (.ref f) (.ref y))
    exact k a _ (.inl rfl) e
  | ext φ => obtain ⟨p, ⟨o, e⟩, st⟩ := x; exact ⟨st _ _ p fun o q => k _ _ (.inl rfl) q, ⟨o, k _ _ (.inl rfl) e⟩, st⟩
theorem HOk.lt (x : HOk P w H h) (e : H a = some o) : a < h.objs.size := (x a o e).lt
theorem HOk.fresh (x : HOk P w H h) (e : h.objs.size ≤ a) : H a = none := by
  cases q : H a with
  | none => rfl
  | some u => exact absurd (Nat.lt_of_lt_of_le (x.lt q) e) (Nat.lt_irrefl _)
/-- every object of the heap is kept -/
theorem HOk.kept (x : HOk P w H h) (k : ∀ b u, h.get? b = some u → h'.get? b = some u) : HOk P w H h' := fun a o e =>
  (x a o e).stay (fun b u _ q => k b u q) (fun _ q => q) fun _ _ q => q
/-- a new object is laid and tracked -/
theorem HOk.laid (x : HOk P w H h) (k : ∀ b u, h.get? b = some u → h'.get? b = some u) (hp : h.objs.size ≤ a) (new : ObjOk P w (upd H a o) h' a o) : HOk P w (upd H a o) h' := fun b u e => by
  have hn := x.fresh hp
  by_cases hb : b = a
  · subst hb; rw [upd_same] at e; cases e; exact new
  · rw [upd_ne hb] at e
    exact (x b u e).stay (fun c v _ q => k c v q) (fun c q => by rw [upd_ne (ne_of_none q hn)]; exact q) fun c xs q => by rw [upd_ne (ne_of_none q hn)]; exact q
end

/-- what may be read as u: it is u, or a known u -/
def Rd (H : Hp) (a : Addr) (u : HO) : Prop := H a = some u ∨ ∃ o, H a = some (.frz o u)
theorem Rd.ok {P : Program} {w : World} {H : Hp} {h : Heap} {a : Addr} {u : HO} (r : Rd H a u) (x : HOk P w H h) : ObjOk P w H h a u := by
  rcases r with r | ⟨o, r⟩
  · exact x a u r
  · obtain ⟨_, q⟩ := x a _ r
    exact q
/-- what may be written -/
def Mut : Option HO → Prop
  | some (.lst _) => True
  | some (.dK _) => True
  | some (.dT _) => True
  | some (.set _ _) => True
  | some (.ins _ _ _) => True
  | some (.ext _) => True
  | _ => False
section
variable {P : Program} {w : World} {H : Hp} {h h' : Heap} {x e : Addr} {o' : HO}
/-- the object at e is changed: x itself, or the dict of the instance x -/
theorem HOk.write (ok : HOk P w H h) (mu : Mut (H x)) (he : e = x ∨ H e = some (.own x)) (k : ∀ b u, b ≠ e → h.get? b = some u → h'.get? b = some u) (heo : ∃ u, h'.get? e = some u)
    (new : ObjOk P w (upd H x o') h' x o') : HOk P w (upd H x o') h' := fun b u q => by
  have nown : ∀ c y, H c = some (.own y) → c ≠ x := fun c y r z => by subst z; rw [r] at mu; exact mu
  have ntup : ∀ c xs, H c = some (.tup xs) → c ≠ x := fun c xs r z => by subst z; rw [r] at mu; exact mu
  by_cases hb : b = x
  · subst hb; rw [upd_same] at q; cases q; exact new
  · rw [upd_ne hb] at q
    by_cases hbe : b = e
    · have q' : H b = some (.own x) := by
        rcases he with z | z
        · exact absurd (hbe.trans z) hb
        · rw [hbe]; exact z
      rw [q] at q'; cases q'
      obtain ⟨v, hv⟩ := heo
      exact ⟨v, by rw [hbe]; exact hv⟩
    · refine (ok b u q).stay (fun c v hc r => k c v ?_ r) (fun c r => by rw [upd_ne (nown c b r)]; exact r) fun c xs r => by rw [upd_ne (ntup c xs r)]; exact r
      rcases hc with rfl | hc
      · exact hbe
      · rintro rfl
        rcases he with z | z
        · exact nown c b hc z
        · rw [hc] at z; cases z; exact hb rfl
end

/-! ### kept unless tracked; of the frames at fs (the callers') the slots may change (an exception that passes writes there); of the records at ex (iterators) nothing is said -/
structure Un (fs ex : List Addr) (H H' : Hp) (h h' : Heap) : Prop where
  keep : ∀ b o, h.get? b = some o → H b = none → b ∉ fs → b ∉ ex → h'.get? b = some o
  slot : ∀ b o, h.get? b = some o → H b = none → b ∈ fs → b ∉ ex → ∃ sl, h'.get? b = some { o with slots := sl }
  free : ∀ b o, h.get? b = some o → H b = none → b ∉ ex → H' b = none
  there : ∀ b o, h.get? b = some o → b ∉ ex → ∃ o', h'.get? b = some o'
  tups : ∀ b xs, H b = some (.tup xs) → H' b = some (.tup xs)
  frzs : ∀ b o u, H b = some (.frz o u) → H' b = some (.frz o u)
  tbls : ∀ b ps, H b = some (.tbl ps) → ∃ more, H' b = some (.tbl (ps ++ more))
section
variable {fs fs' ex ex' : List Addr} {H H1 H2 : Hp} {h h1 h2 h' : Heap} {a x e : Addr} {o : HO}
theorem Un.any (u : Un fs ex H H1 h h1) {b : Addr} {ob : Obj} (q : h.get? b = some ob) (n : H b = none) (hx : b ∉ ex) : ∃ sl, h1.get? b = some { ob with slots := sl } := by
  by_cases hb : b ∈ fs
  · exact u.slot b ob q n hb hx
  · exact ⟨ob.slots, u.keep b ob q n hb hx⟩
theorem Un.kept (k : ∀ b u, h.get? b = some u → h'.get? b = some u) : Un fs ex H H h h' :=
  ⟨fun b ob q _ _ _ => k b ob q, fun b ob q _ _ _ => ⟨ob.slots, k b ob q⟩, fun _ _ _ n _ => n, fun b ob q _ => ⟨ob, k b ob q⟩, fun _ _ q => q, fun _ _ _ q => q, fun _ ps q => ⟨#[], by rw [q]; simp⟩⟩
theorem Un.refl : Un fs ex H H h h := Un.kept fun _ _ q => q
theorem Un.laid (k : ∀ b u, h.get? b = some u → h'.get? b = some u) (hp : h.objs.size ≤ a) (hn : H a = none) : Un fs ex H (upd H a o) h h' where
  keep := fun b u q _ _ _ => k b u q
  slot := fun b u q _ _ _ => ⟨u.slots, k b u q⟩
  free := fun b u q n _ => by rw [upd_ne (Nat.ne_of_lt (Nat.lt_of_lt_of_le (Heap.lt_size q) hp))]; exact n
  there := fun b u q _ => ⟨u, k b u q⟩
  tups := fun b xs q => by rw [upd_ne (ne_of_none q hn)]; exact q
  frzs := fun b u xs q => by rw [upd_ne (ne_of_none q hn)]; exact q
  tbls := fun b ps q => ⟨#[], by rw [upd_ne (ne_of_none q hn), q]; simp⟩
theorem Un.write (mu : Mut (H x)) (he : e = x ∨ H e = some (.own x)) (k : ∀ b u, b ≠ e → h.get? b = some u → h'.get? b = some u) (heo : ∃ u, h'.get? e = some u) : Un fs ex H (upd H x o) h h' := by
  have hx : ∀ b, H b = none → b ≠ x := fun b n z => by subst z; rw [n] at mu; exact mu
  have hb : ∀ b, H b = none → b ≠ e := fun b n z => by
    subst z
    rcases he with r | r
    · exact hx b n r
    · rw [n] at r; cases r
  have hm : ∀ b u, H b = some u → ¬ Mut (some u) → b ≠ x := fun b u q nm z => by subst z; rw [q] at mu; exact nm mu
  refine ⟨fun b u q n _ _ => k b u (hb b n) q, fun b u q n _ _ => ⟨u.slots, k b u (hb b n) q⟩, fun b u q n _ => by rw [upd_ne (hx b n)]; exact n, fun b u q _ => ?_,
    fun b xs q => by rw [upd_ne (hm b _ q fun z => z)]; exact q, fun b u xs q => by rw [upd_ne (hm b _ q fun z => z)]; exact q, fun b ps q => ⟨#[], by rw [upd_ne (hm b _ q fun z => z), q]; simp⟩⟩
  by_cases hbe : b = e
  · subst hbe; exact heo
  · exact ⟨u, k b u hbe q⟩
end

/-! ### the heap without what is tracked -/
def trk (h : Heap) (H : Hp) : List Addr := (List.range h.objs.size).filter fun a => (H a).isSome
def hidT (h : Heap) (H : Hp) : Heap := PySem.W.hideAll h (trk h H)
theorem hidT_size (h : Heap) (H : Hp) : (hidT h H).objs.size = h.objs.size := PySem.W.hideAll_size _ _
theorem hidT_get {h : Heap} {H : Hp} {b : Addr} {o : Obj} (e : h.get? b = some o) (n : H b = none) : (hidT h H).get? b = some o :=
  PySem.W.hideAll_get _ e fun hm => by
    have q : (H b).isSome = true := (List.mem_filter.mp hm).2
    rw [n] at q; simp at q
theorem of_hidT {h : Heap} {H : Hp} {b : Addr} {o : Obj} (e : (hidT h H).get? b = some o) : h.get? b = some o ∧ H b = none := by
  have e' : h.get? b = some o := PySem.W.of_hideAll (trk h H) e
  refine ⟨e', ?_⟩
  cases q : H b with
  | none => rfl
  | some x =>
    have hm : b ∈ trk h H := List.mem_filter.mpr ⟨List.mem_range.mpr (Heap.lt_size e'), by simp [q]⟩
    have z : (hidT h H).get? b = none := PySem.W.hideAll_none (trk h H) hm
    rw [z] at e; cases e

/-! ### OpenK's ledger, filled with every new object but one -/
def allNews (g h : Heap) (L : Addr) : List (Addr × Obj) := (List.range h.objs.size).filterMap fun a => if a = L ∨ (g.get? a).isSome = true then none else (h.get? a).map fun o => (a, o)
def rest (g h : Heap) (L d : Addr) : List (Addr × Obj) := (allNews g h L).filter fun p => decide (p.1 ≠ d)
end L2

namespace L2
open PySem PySem.Spec PyProof.Rows

/-- the module's facts, over the base: the heap at the law's entry without what is tracked there -/
structure Mod (K : PySem.W.Frag) (mg : Str → Option Value) (base : Heap) : Prop where
  kin : K.In base
  glob : base.Ns mainGlobals mg
  blt : ∃ mb, base.Ns builtinsNs mb ∧ ∀ x : Str, x ≠ "__name__" → mb x = bootBuiltins x
  nolimit : base.NoLimit

/-- the context: a def's body (or a comprehension's block) running. base: fixed through the whole law; s₀, H₀: the entry; outer: the frames whose slots others may change (a def's callers); stack: all frames that run;
   ex: iterators that were made ahead of the entry and are walked here (a comprehension's); fn: the names whose cells were made at the entry (a def: all; a comprehension's block: its own); calm: not within an except suite; pn: pins that every state bears; xe: what is wanted of an exception that leaves the code -/
structure Cx where
  prog : Program
  w : World
  K : PySem.W.Frag
  mg : Str → Option Value
  base : Heap
  A : Around
  N : List Str
  s₀ : Shared
  H₀ : Hp
  env : Env
  outer : List Env
  stack : List Env
  ex : List Addr
  fn : Str → Bool
  calm : Bool
  pn : List (Addr × Obj)
  xe : Value → Shared → Prop
/-- the callers' frames -/
def frs (l : List Env) : List Addr := l.filterMap (·.frame)
abbrev Cx.fs (X : Cx) : List Addr := frs X.outer

def Vis (sc : Scope) (x : Str) : Prop := sc.names.lookup x = some .local ∨ sc.names.lookup x = some .cell ∨ sc.names.lookup x = some .free
def Loc (sc : Scope) (x : Str) : Prop := sc.names.lookup x = some .local ∨ sc.names.lookup x = some .cell
def Look (env : Env) (h : Heap) (m : Str → Option Value) (x : Str) (u : Value) : Prop :=
  (env.kindOf x = some .local ∧ m x = some u) ∨ ((env.kindOf x = some .cell ∨ env.kindOf x = some .free) ∧ ∃ c, env.cells.lookup x = some c ∧ h.IsCell c (some u))

structure Cx.Ok (X : Cx) : Prop where
  mod : Mod X.K X.mg X.base
  kind : X.env.scope.kind = .function
  glob : X.env.globals = mainGlobals
  blt : X.env.builtins = builtinsNs
  above : X.s₀.heap.objs.size ≤ X.env.locals
  inj : ∀ x y c, X.env.cells.lookup x = some c → X.env.cells.lookup y = some c → x = y
  has : ∀ x, (X.env.kindOf x = some .cell ∨ X.env.kindOf x = some .free) → ∃ c, X.env.cells.lookup x = some c
  cab : ∀ x c, X.fn x = true → X.env.cells.lookup x = some c → X.s₀.heap.objs.size ≤ c
  hd : X.calm = true → X.A.handled = none
  frames : X.A.frames = some X.stack
  stk : X.stack = X.outer ∨ (X.stack = X.env :: X.outer ∧ X.env.frame = some X.env.locals)
  exf : ∀ b ∈ X.ex, b ≠ X.env.locals ∧ ∀ x c, X.env.cells.lookup x = some c → c ≠ b
  bs : ∀ b o, X.base.get? b = some o → X.s₀.heap.get? b = some o ∧ X.H₀ b = none
  bsz : X.base.objs.size ≤ X.s₀.heap.objs.size
  noex : ∀ b o, X.base.get? b = some o → b ∉ X.ex
  exfs : ∀ b ∈ X.ex, b ∉ X.fs
  funs : X.s₀.heap.FunFrames X.base X.outer
  frf : ∀ b ∈ X.fs, X.H₀ b = none

structure Inv (X : Cx) (pins : List (Addr × Obj)) (σ : List (Option V)) (H : Hp) (s : Shared) : Prop where
  ok : X.Ok
  os : s.os = X.s₀.os
  bare : AllBare s.gens
  base : Un X.fs X.ex X.H₀ H X.s₀.heap s.heap
  loc : ∃ m, s.heap.Ns X.env.locals m ∧ ∀ (i : Nat) (x : Str) (v : V), X.N[i]? = some x → σ[i]? = some (some v) → Vis X.env.scope x → ∃ u, RelV v u ∧ Look X.env s.heap m x u
  cell : ∀ x c, X.env.cells.lookup x = some c → ∃ v, s.heap.IsCell c v
  free : H X.env.locals = none
  freeC : ∀ x c, X.env.cells.lookup x = some c → H c = none
  pin : ∀ p ∈ X.pn ++ pins, s.heap.get? p.1 = some p.2 ∧ H p.1 = none ∧ p.1 ≠ X.env.locals ∧ p.1 ∉ X.fs ∧ ∀ v, p.2.data ≠ .cell v
  hok : HOk X.prog X.w H s.heap
  len : σ.length = X.N.length

section
variable {X : Cx} {pins : List (Addr × Obj)} {σ : List (Option V)} {H H' : Hp} {s : Shared} {h' : Heap}

theorem Cx.Ok.nofr (ok : X.Ok) {b : Addr} {o : Obj} (e : X.base.get? b = some o) : b ∉ X.fs := fun hb => by
  have := (ok.funs.mem hb).1
  rw [e] at this; cases this
theorem Inv.bs (I : Inv X pins σ H s) : ∀ b o, X.base.get? b = some o → s.heap.get? b = some o ∧ H b = none := fun b o e =>
  ⟨I.base.keep b o (I.ok.bs b o e).1 (I.ok.bs b o e).2 (I.ok.nofr e) (I.ok.noex b o e), I.base.free b o (I.ok.bs b o e).1 (I.ok.bs b o e).2 (I.ok.noex b o e)⟩
theorem Inv.bk (I : Inv X pins σ H s) : ∀ b o, X.base.get? b = some o → s.heap.get? b = some o := fun b o e => (I.bs b o e).1
theorem Inv.mod (I : Inv X pins σ H s) : Mod X.K X.mg X.base := I.ok.mod
theorem Inv.kIn (I : Inv X pins σ H s) : X.K.In s.heap := I.ok.mod.kin.keeps I.bk
theorem Inv.lt (I : Inv X pins σ H s) : X.env.locals < s.heap.objs.size := let ⟨_, hn, _⟩ := I.loc; hn.lt
theorem Inv.sz (I : Inv X pins σ H s) : X.s₀.heap.objs.size ≤ s.heap.objs.size := Nat.le_trans I.ok.above (Nat.le_of_lt I.lt)
theorem Inv.nofs (I : Inv X pins σ H s) {a : Addr} (h : s.heap.objs.size ≤ a) : a ∉ X.fs := fun hb => by
  obtain ⟨_, o, ho, _⟩ := I.ok.funs.mem hb
  exact absurd (Nat.lt_of_lt_of_le (Heap.lt_size ho) (Nat.le_trans I.sz h)) (Nat.lt_irrefl _)
theorem Inv.cne (I : Inv X pins σ H s) : ∀ x c, X.env.cells.lookup x = some c → c ≠ X.env.locals := fun x c e z => by
  obtain ⟨v, o, ho, hd⟩ := I.cell x c e
  obtain ⟨m, ⟨o', es, ep, ho', hd', _⟩, _⟩ := I.loc
  rw [z, ho'] at ho; cases ho; rw [hd'] at hd; cases hd
theorem Inv.funs (I : Inv X pins σ H s) : s.heap.FunFrames X.base X.outer := by
  have all : ∀ (l : List Env), (∀ b ∈ frs l, b ∈ X.fs) → X.s₀.heap.FunFrames X.base l → s.heap.FunFrames X.base l := by
    intro l
    induction l with
    | nil => intro _ _; trivial
    | cons env r ih =>
      intro hs hl
      obtain ⟨hk, ⟨L, o, hf, hn, ho, hd⟩, hr⟩ := hl
      have hL : L ∈ X.fs := hs L (by unfold frs; rw [List.filterMap_cons, hf]; exact List.mem_cons_self)
      obtain ⟨sl, e⟩ := I.base.slot L o ho (I.ok.frf L hL) hL fun z => I.ok.exfs L z hL
      exact ⟨hk, ⟨L, _, hf, hn, e, hd⟩, ih (fun b hb => hs b (by unfold frs; rw [List.filterMap_cons, hf]; exact List.mem_cons_of_mem _ hb)) hr⟩
  exact all X.outer (fun _ hb => hb) I.ok.funs

/-- the frames that run, for a call -/
theorem Inv.stack (I : Inv X pins σ H s) : s.heap.FunFrames X.base X.stack := by
  rcases I.ok.stk with e | ⟨e, hf⟩
  · rw [e]; exact I.funs
  · rw [e]
    obtain ⟨m, hn, _⟩ := I.loc
    refine .cons (by rw [I.ok.kind]; decide) hf hn ?_ I.funs
    exact Heap.get?_none_of_le (Nat.le_trans I.ok.bsz I.ok.above)
theorem Inv.stkSub (I : Inv X pins σ H s) : ∀ b ∈ frs X.stack, b ∈ X.env.locals :: X.fs := fun b hb => by
  rcases I.ok.stk with e | ⟨e, hf⟩
  · rw [e] at hb; exact List.mem_cons_of_mem _ hb
  · rw [e] at hb
    unfold frs at hb
    rw [List.filterMap_cons, hf] at hb
    exact hb
theorem Inv.stkFree (I : Inv X pins σ H s) : ∀ b ∈ frs X.stack, H b = none := fun b hb => by
  rcases List.mem_cons.mp (I.stkSub b hb) with e | hb
  · rw [e]; exact I.free
  · obtain ⟨_, o, ho, _⟩ := I.ok.funs.mem hb
    exact I.base.free b o ho (I.ok.frf b hb) fun z => I.ok.exfs b z hb

/-- THE STEP: the untracked objects but the frame and the records at ch are kept (the callers' frames up to slots), the frame's map is kept, the new abstract heap is held -/
theorem Inv.step {g' : Array GenState} {t' : Nat} {d' : Drawn} {ch : List Addr} (I : Inv X pins σ H s)
    (hch : ∀ b ∈ ch, (b ∈ X.ex ∨ X.s₀.heap.objs.size ≤ b) ∧ b ≠ X.env.locals ∧ (∀ x c, X.env.cells.lookup x = some c → c ≠ b) ∧ ∀ p ∈ X.pn ++ pins, p.1 ≠ b)
    (keep : ∀ b o, b ≠ X.env.locals → b ∉ X.fs → b ∉ ch → s.heap.get? b = some o → H b = none → h'.get? b = some o)
    (slot : ∀ b o, b ≠ X.env.locals → b ∈ X.fs → b ∉ ch → s.heap.get? b = some o → H b = none → ∃ sl, h'.get? b = some { o with slots := sl }) (free : ∀ b o, b ∉ ch → s.heap.get? b = some o → H b = none → H' b = none)
    (there : ∀ b o, b ∉ ch → s.heap.get? b = some o → ∃ o', h'.get? b = some o')
    (tups : ∀ b xs, H b = some (.tup xs) → H' b = some (.tup xs)) (frzs : ∀ b o u, H b = some (.frz o u) → H' b = some (.frz o u)) (tbls : ∀ b ps, H b = some (.tbl ps) → ∃ more, H' b = some (.tbl (ps ++ more)))
    (ns : ∀ m, s.heap.Ns X.env.locals m → h'.Ns X.env.locals m) (hok : HOk X.prog X.w H' h') (hg : AllBare g') :
    Inv X pins σ H' { s with heap := h', gens := g', drawn := d', toks := t' } := by
  have neL : ∀ b o, X.s₀.heap.get? b = some o → b ≠ X.env.locals := fun b o e => Nat.ne_of_lt (Nat.lt_of_lt_of_le (Heap.lt_size e) I.ok.above)
  have neC : ∀ b o, X.s₀.heap.get? b = some o → b ∉ X.ex → b ∉ ch := fun b o e hx hb => by
    rcases (hch b hb).1 with z | z
    · exact hx z
    · exact absurd (Nat.lt_of_lt_of_le (Heap.lt_size e) z) (Nat.lt_irrefl _)
  have cellK : ∀ x c, X.env.cells.lookup x = some c → ∀ v, s.heap.IsCell c v → h'.IsCell c v := fun x c e v ⟨o, ho, hd⟩ => by
    have nch : c ∉ ch := fun z => (hch c z).2.2.1 x c e rfl
    by_cases hc : c ∈ X.fs
    · obtain ⟨sl, q⟩ := slot c o (I.cne x c e) hc nch ho (I.freeC x c e)
      exact ⟨_, q, hd⟩
    · exact ⟨o, keep c o (I.cne x c e) hc nch ho (I.freeC x c e), hd⟩
  refine ⟨I.ok, I.os, hg, ⟨fun b o e n hb hx => ?_, fun b o e n hb hx => ?_, fun b o e n hx => ?_, fun b o e hx => ?_, fun b xs e => tups b xs (I.base.tups b xs e), fun b o xs e => frzs b o xs (I.base.frzs b o xs e), fun b ps e => ?_⟩, ?_, fun x c e => ?_, ?_, fun x c e => ?_, fun p hp => ?_, hok, I.len⟩
  · exact keep b o (neL b o e) hb (neC b o e hx) (I.base.keep b o e n hb hx) (I.base.free b o e n hx)
  · obtain ⟨sl, e1⟩ := I.base.slot b o e n hb hx
    obtain ⟨sl', e2⟩ := slot b _ (neL b o e) hb (neC b o e hx) e1 (I.base.free b o e n hx)
    exact ⟨sl', e2⟩
  · obtain ⟨o', e1⟩ := I.base.there b o e hx
    exact free b o' (neC b o e hx) e1 (I.base.free b o e n hx)
  · obtain ⟨o', e1⟩ := I.base.there b o e hx
    exact there b o' (neC b o e hx) e1
  · obtain ⟨m1, e1⟩ := I.base.tbls b ps e
    obtain ⟨m2, e2⟩ := tbls b _ e1
    exact ⟨m1 ++ m2, by rw [e2, Array.append_assoc]⟩
  · obtain ⟨m, hn, hl⟩ := I.loc
    refine ⟨m, ns m hn, fun i x v e1 e2 e3 => ?_⟩
    obtain ⟨u, r, l⟩ := hl i x v e1 e2 e3
    refine ⟨u, r, ?_⟩
    rcases l with l | ⟨k, c, e, z⟩
    · exact .inl l
    · exact .inr ⟨k, c, e, cellK x c e _ z⟩
  · obtain ⟨v, z⟩ := I.cell x c e
    exact ⟨v, cellK x c e v z⟩
  · obtain ⟨m, ⟨o, _, _, ho, _⟩, _⟩ := I.loc
    exact free _ o (fun z => (hch _ z).2.1 rfl) ho I.free
  · obtain ⟨v, o, ho, hd⟩ := I.cell x c e
    exact free c o (fun z => (hch c z).2.2.1 x c e rfl) ho (I.freeC x c e)
  · obtain ⟨e, n, ne, nf, d⟩ := I.pin p hp
    have nch : p.1 ∉ ch := fun z => (hch p.1 z).2.2.2 p hp rfl
    exact ⟨keep p.1 p.2 ne nf nch e n, free p.1 p.2 nch e n, ne, nf, d⟩
/-- .. where the frame's own object is kept too -/
theorem Inv.un {t' : Nat} (I : Inv X pins σ H s) (u : Un X.fs [] H H' s.heap h') (hok : HOk X.prog X.w H' h') : Inv X pins σ H' { s with heap := h', toks := t' } := by
  obtain ⟨m, ⟨o, es, ep, ho, r⟩, _⟩ := id I.loc
  obtain ⟨sl, hL⟩ := u.any ho I.free (by simp)
  exact I.step (g' := s.gens) (d' := s.drawn) (ch := []) (fun _ z => nomatch z) (fun b o _ hb _ e n => u.keep b o e n hb (by simp)) (fun b o _ hb _ e n => u.slot b o e n hb (by simp)) (fun b o _ e n => u.free b o e n (by simp)) (fun b o _ e => u.there b o e (by simp)) u.tups u.frzs u.tbls (fun m' hm => by
    obtain ⟨o', es', ep', ho', r'⟩ := hm
    rw [ho] at ho'; cases ho'
    exact ⟨_, es', ep', hL, r'⟩) hok I.bare
/-- behind a call (or a comprehension's block): the slots of this frame may have changed too, the records at ch may have turned -/
theorem Inv.call {g' : Array GenState} {t' : Nat} {d' : Drawn} {ch : List Addr} (I : Inv X pins σ H s) (u : Un (frs X.stack) ch H H' s.heap h') (hok : HOk X.prog X.w H' h') (hg : AllBare g')
    (hch : ∀ b ∈ ch, (b ∈ X.ex ∨ X.s₀.heap.objs.size ≤ b) ∧ b ≠ X.env.locals ∧ (∀ x c, X.env.cells.lookup x = some c → c ≠ b) ∧ ∀ p ∈ X.pn ++ pins, p.1 ≠ b) :
    Inv X pins σ H' { s with heap := h', gens := g', drawn := d', toks := t' } := by
  obtain ⟨m, ⟨o, es, ep, ho, r⟩, _⟩ := id I.loc
  obtain ⟨sl, hL⟩ := u.any ho I.free fun z => (hch _ z).2.1 rfl
  exact I.step (ch := ch) hch (fun b o hL hb hc e n => u.keep b o e n (fun z => (List.mem_cons.mp (I.stkSub b z)).elim hL hb) hc) (fun b o _ _ hc e n => u.any e n hc) (fun b o hc e n => u.free b o e n hc) (fun b o hc e => u.there b o e hc) u.tups u.frzs u.tbls (fun m' hm => by
    obtain ⟨o', es', ep', ho', r'⟩ := hm
    rw [ho] at ho'; cases ho'
    exact ⟨_, es', ep', hL, r'⟩) hok hg
/-- an untracked record of ours (an iterator) has turned -/
theorem Inv.turned {t' : Nat} {it : Addr} (I : Inv X pins σ H s) (k : ∀ b o, b ≠ it → s.heap.get? b = some o → h'.get? b = some o) (hn : H it = none) (hL : it ≠ X.env.locals)
    (h1 : it ∈ X.ex ∨ X.s₀.heap.objs.size ≤ it) (h2 : ∀ x c, X.env.cells.lookup x = some c → c ≠ it) (h3 : ∀ p ∈ X.pn ++ pins, p.1 ≠ it) : Inv X pins σ H { s with heap := h', toks := t' } := by
  have nit : ∀ b u, H b = some u → b ≠ it := fun b u e z => by rw [z, hn] at e; cases e
  refine I.step (g' := s.gens) (d' := s.drawn) (ch := [it]) (fun b hb => ?_) (fun b o _ _ hc e _ => k b o (fun z => hc (by simp [z])) e) (fun b o _ _ hc e _ => ⟨o.slots, k b o (fun z => hc (by simp [z])) e⟩) (fun _ _ _ _ n => n)
    (fun b o hc e => ⟨o, k b o (fun z => hc (by simp [z])) e⟩) (fun _ _ e => e) (fun _ _ _ e => e) (fun b ps e => ⟨#[], by rw [e]; simp⟩) (fun m hm => ?_) (fun b u e => ?_) I.bare
  · have e : b = it := by simpa using hb
    subst e
    exact ⟨h1, hL, h2, h3⟩
  · obtain ⟨o, es, ep, ho, r⟩ := hm
    exact ⟨o, es, ep, k _ o (Ne.symm hL) ho, r⟩
  · refine (I.hok b u e).stay (fun c v hc q => k c v ?_ q) (fun _ q => q) fun _ _ q => q
    rcases hc with z | z
    · rw [z]; exact nit b u e
    · exact nit c _ z
theorem Inv.tok (I : Inv X pins σ H s) (t : Nat) : Inv X pins σ H { s with toks := t } := I.un (h' := s.heap) (t' := t) Un.refl I.hok
/-- all objects kept -/
theorem Inv.kept {t' : Nat} (I : Inv X pins σ H s) (k : ∀ b u, s.heap.get? b = some u → h'.get? b = some u) : Inv X pins σ H { s with heap := h', toks := t' } := I.un (Un.kept k) (I.hok.kept k)
/-- a new object laid and tracked -/
theorem Inv.laid {a : Addr} {o : HO} {t' : Nat} (I : Inv X pins σ H s) (k : ∀ b u, s.heap.get? b = some u → h'.get? b = some u) (hp : s.heap.objs.size ≤ a) (new : ObjOk X.prog X.w (upd H a o) h' a o) :
    Inv X pins σ (upd H a o) { s with heap := h', toks := t' } := I.un (Un.laid k hp (I.hok.fresh hp)) (I.hok.laid k hp new)
/-- an object written -/
theorem Inv.write {x e : Addr} {o : HO} {t' : Nat} (I : Inv X pins σ H s) (mu : Mut (H x)) (he : e = x ∨ H e = some (.own x)) (k : ∀ b u, b ≠ e → s.heap.get? b = some u → h'.get? b = some u) (heo : ∃ u, h'.get? e = some u)
    (new : ObjOk X.prog X.w (upd H x o) h' x o) : Inv X pins σ (upd H x o) { s with heap := h', toks := t' } := I.un (Un.write mu he k heo) (I.hok.write mu he k heo new)
theorem Inv.pins_of {pins' : List (Addr × Obj)} (I : Inv X pins σ H s) (h : ∀ p ∈ pins', s.heap.get? p.1 = some p.2 ∧ H p.1 = none ∧ p.1 ≠ X.env.locals ∧ p.1 ∉ X.fs ∧ ∀ v, p.2.data ≠ .cell v) : Inv X pins' σ H s :=
  ⟨I.ok, I.os, I.bare, I.base, I.loc, I.cell, I.free, I.freeC, fun p hp => (List.mem_append.mp hp).elim (fun z => I.pin p (List.mem_append_left _ z)) (h p), I.hok, I.len⟩

theorem nodup_ix {N : List Str} (hN : N.Nodup) {i j : Nat} {x : Str} (a : N[i]? = some x) (b : N[j]? = some x) : i = j := by
  obtain ⟨h1, e1⟩ := List.getElem?_eq_some_iff.mp a
  obtain ⟨h2, e2⟩ := List.getElem?_eq_some_iff.mp b
  exact (List.getElem_inj hN).mp (e1.trans e2.symm)

/-- a name is stored; what changed -/
theorem store_ok2 {M : Model} {A : Around} {E : Value → Shared → Prop} {i : Nat} {x : Str} {v : V} {u : Value} {Q : Unit → Shared → Prop} (I : Inv X pins σ H s) (hN : X.N.Nodup) (hi : X.N[i]? = some x) (hx : Loc X.env.scope x) (r : RelV v u)
    (h : ∀ s', Inv X pins (σ.set i (some v)) H s' → (∃ a, Heap.SameBut a s.heap s'.heap ∧ (a = X.env.locals ∨ X.env.cells.lookup x = some a)) → Q () s') (hf : X.fn x = true ∨ X.env.scope.names.lookup x = some .local := by first | exact .inl rfl | exact .inr rfl | assumption) : wpAny M A (storeName X.env x u) Q E s := by
  obtain ⟨m, hn, hl⟩ := id I.loc
  have hcls : (X.env.scope.kind == .class || (X.env.scope.kind == .module && X.env.locals != X.env.globals)) = false := by rw [I.ok.kind]; rfl
  have hiσ : i < σ.length := by rw [I.len]; exact (List.getElem?_eq_some_iff.mp hi).1
  have cne := I.cne
  have tracked : ∀ {a : Addr} {h' : Heap}, (∃ o, s.heap.get? a = some o ∧ H a = none) → Heap.SameBut a s.heap h' → HOk X.prog X.w H h' := fun {a h'} ha hs b ob e => by
    obtain ⟨_, _, hfree⟩ := ha
    refine (I.hok b ob e).stay (fun c w' hc q => (hs.2 c ?_).trans q) (fun _ q => q) fun _ _ q => q
    rintro rfl
    rcases hc with rfl | hc
    · rw [hfree] at e; cases e
    · rw [hfree] at hc; cases hc
  rcases hx with hk | hk
  · refine wpAny_storeName_local hk hn (fun h' hn' hs => ?_) hcls
    obtain ⟨oL, _, _, hoL, _⟩ := id hn
    refine h _ ⟨I.ok, I.os, I.bare, ⟨fun b o e n hb hx => ?_, fun b o e n hb hx => ?_, I.base.free, fun b o e hx => ?_, I.base.tups, I.base.frzs, I.base.tbls⟩, ⟨_, hn', fun j y v' e1 e2 e3 => ?_⟩, fun y c e => ?_, I.free, I.freeC, fun p hp => ?_, tracked ⟨oL, hoL, I.free⟩ hs, by simpa using I.len⟩ ⟨_, hs, .inl rfl⟩
    · exact (hs.2 b (Nat.ne_of_lt (Nat.lt_of_lt_of_le (Heap.lt_size e) I.ok.above))).trans (I.base.keep b o e n hb hx)
    · obtain ⟨sl, e1⟩ := I.base.slot b o e n hb hx
      exact ⟨sl, (hs.2 b (Nat.ne_of_lt (Nat.lt_of_lt_of_le (Heap.lt_size e) I.ok.above))).trans e1⟩
    · obtain ⟨o', e1⟩ := I.base.there b o e hx
      exact ⟨o', (hs.2 b (Nat.ne_of_lt (Nat.lt_of_lt_of_le (Heap.lt_size e) I.ok.above))).trans e1⟩
    · by_cases hj : j = i
      · subst hj
        rw [hi] at e1; cases e1
        rw [List.getElem?_set_self hiσ] at e2
        cases e2
        exact ⟨u, r, .inl ⟨hk, by simp⟩⟩
      · rw [List.getElem?_set_ne (Ne.symm hj)] at e2
        obtain ⟨u', r', q⟩ := hl j y v' e1 e2 e3
        refine ⟨u', r', ?_⟩
        rcases q with ⟨k, e⟩ | ⟨k, c, e, z⟩
        · refine .inl ⟨k, ?_⟩
          have : y ≠ x := fun e => hj (nodup_ix hN e1 (e ▸ hi))
          simp [this, e]
        · exact .inr ⟨k, c, e, z.sameBut hs (cne y c e)⟩
    · obtain ⟨w', z⟩ := I.cell y c e
      exact ⟨w', z.sameBut hs (cne y c e)⟩
    · obtain ⟨e, n, ne, nf, d⟩ := I.pin p hp
      exact ⟨(hs.2 p.1 ne).trans e, n, ne, nf, d⟩
  · have hfn : X.fn x = true := by
      rcases hf with z | z
      · exact z
      · rw [z] at hk; cases hk
    obtain ⟨c, hc⟩ := I.ok.has x (.inl hk)
    obtain ⟨w', z⟩ := I.cell x c hc
    refine wpAny_storeName_cell I.ok.kind hk hc z (fun h' hc' hs => ?_)
    obtain ⟨oc, hoc, hocd⟩ := id z
    refine h { s with heap := h' } ⟨I.ok, I.os, I.bare, ⟨fun b o e n hb hx => ?_, fun b o e n hb hx => ?_, I.base.free, fun b o e hx => ?_, I.base.tups, I.base.frzs, I.base.tbls⟩, ⟨m, hn.sameBut hs (Ne.symm (cne x c hc)), fun j y v' e1 e2 e3 => ?_⟩, fun y c' e => ?_, I.free, I.freeC, fun p hp => ?_, tracked ⟨oc, hoc, I.freeC x c hc⟩ hs, by simpa using I.len⟩ ⟨c, hs, .inr hc⟩
    · exact (hs.2 b (Nat.ne_of_lt (Nat.lt_of_lt_of_le (Heap.lt_size e) (I.ok.cab x c hfn hc)))).trans (I.base.keep b o e n hb hx)
    · obtain ⟨sl, e1⟩ := I.base.slot b o e n hb hx
      exact ⟨sl, (hs.2 b (Nat.ne_of_lt (Nat.lt_of_lt_of_le (Heap.lt_size e) (I.ok.cab x c hfn hc)))).trans e1⟩
    · obtain ⟨o', e1⟩ := I.base.there b o e hx
      exact ⟨o', (hs.2 b (Nat.ne_of_lt (Nat.lt_of_lt_of_le (Heap.lt_size e) (I.ok.cab x c hfn hc)))).trans e1⟩
    · by_cases hj : j = i
      · subst hj
        rw [hi] at e1; cases e1
        rw [List.getElem?_set_self hiσ] at e2
        cases e2
        exact ⟨u, r, .inr ⟨.inl hk, c, hc, hc'⟩⟩
      · rw [List.getElem?_set_ne (Ne.symm hj)] at e2
        obtain ⟨u', r', q⟩ := hl j y v' e1 e2 e3
        refine ⟨u', r', ?_⟩
        rcases q with q | ⟨k, c', e, z'⟩
        · exact .inl q
        · refine .inr ⟨k, c', e, z'.sameBut hs ?_⟩
          rintro rfl
          exact hj (nodup_ix hN e1 (I.ok.inj _ _ _ e hc ▸ hi))
    · by_cases hcc : c' = c
      · subst hcc; exact ⟨_, hc'⟩
      · obtain ⟨w2, z2⟩ := I.cell y c' e
        exact ⟨w2, z2.sameBut hs hcc⟩
    · obtain ⟨e, n, ne, nf, d⟩ := I.pin p hp
      refine ⟨(hs.2 p.1 ?_).trans e, n, ne, nf, d⟩
      intro q
      rw [q, hoc] at e
      have q' : oc = p.2 := Option.some.inj e
      exact d w' (by rw [← q']; exact hocd)
theorem store_ok {M : Model} {A : Around} {E : Value → Shared → Prop} {i : Nat} {x : Str} {v : V} {u : Value} {Q : Unit → Shared → Prop} (I : Inv X pins σ H s) (hN : X.N.Nodup) (hi : X.N[i]? = some x) (hx : Loc X.env.scope x) (r : RelV v u)
    (h : ∀ s', Inv X pins (σ.set i (some v)) H s' → Q () s') (hf : X.fn x = true ∨ X.env.scope.names.lookup x = some .local := by first | exact .inl rfl | exact .inr rfl | assumption) : wpAny M A (storeName X.env x u) Q E s :=
  store_ok2 I hN hi hx r (fun s' I' _ => h s' I') hf
/-- behind a call or a block, the state as it is -/
theorem Inv.call' {s' : Shared} {ch : List Addr} (I : Inv X pins σ H s) (ho : s'.os = s.os) (u : Un (frs X.stack) ch H H' s.heap s'.heap) (hok : HOk X.prog X.w H' s'.heap) (hg : AllBare s'.gens)
    (hch : ∀ b ∈ ch, (b ∈ X.ex ∨ X.s₀.heap.objs.size ≤ b) ∧ b ≠ X.env.locals ∧ (∀ x c, X.env.cells.lookup x = some c → c ≠ b) ∧ ∀ p ∈ X.pn ++ pins, p.1 ≠ b) : Inv X pins σ H' s' := by
  obtain ⟨h', g', d', t', o'⟩ := s'
  have e : o' = s.os := ho
  subst e
  exact I.call (g' := g') (t' := t') (d' := d') u hok hg hch
end

/-! ### the judgements -/
/-- an exception: its class, its own dict's address (where it has one), the abstract heap behind it -/
abbrev XK := Value → Option Addr → Hp → Prop
abbrev St := List (Option V)
abbrev VK := V → Hp → Prop
/-- an expression's reading; a test's; an argument list's -/
abbrev TE := St → Hp → VK → Prop
abbrev TT := St → Hp → (Bool → Hp → Prop) → Prop
abbrev TA := St → Hp → (List V → Hp → Prop) → Prop
/-- what is wanted behind a statement -/
structure Ends where
  nx : St → Hp → Prop
  rt : VK
  bk : St → Hp → Prop := fun _ _ => False
  ct : St → Hp → Prop := fun _ _ => False
abbrev TS := Ends → St → Hp → Prop

def EP (X : Cx) (pins : List (Addr × Obj)) (σ : St) (Q : VK) (u : Value) (s' : Shared) : Prop := ∃ v H', Inv X pins σ H' s' ∧ RelV v u ∧ Q v H'
def TP (X : Cx) (pins : List (Addr × Obj)) (σ : St) (Q : Bool → Hp → Prop) (b : Bool) (s' : Shared) : Prop := ∃ H', Inv X pins σ H' s' ∧ Q b H'
def AP (X : Cx) (pins : List (Addr × Obj)) (σ : St) (Q : List V → Hp → Prop) (us : List Value) (s' : Shared) : Prop := ∃ vs H', Inv X pins σ H' s' ∧ Vals vs us ∧ Q vs H'
def SP (X : Cx) (pins : List (Addr × Obj)) (D : Ends) (f : Flow) (s' : Shared) : Prop :=
  match f with
  | .next => ∃ σ' H', Inv X pins σ' H' s' ∧ D.nx σ' H'
  | .brk => ∃ σ' H', Inv X pins σ' H' s' ∧ D.bk σ' H'
  | .cont => ∃ σ' H', Inv X pins σ' H' s' ∧ D.ct σ' H'
  | .ret u => ∃ v σ' H', Inv X pins σ' H' s' ∧ RelV v u ∧ D.rt v H'

def PE (X : Cx) (e : Expr) (t : TE) : Prop :=
  ∀ (pins : List (Addr × Obj)) (s : Shared) (σ : St) (H : Hp) (Q : VK), Inv X pins σ H s → t σ H Q → wpAny (model X.prog X.w) X.A (eval e X.env) (EP X pins σ Q) X.xe s
def PT (X : Cx) (e : Expr) (t : TT) : Prop :=
  ∀ (pins : List (Addr × Obj)) (s : Shared) (σ : St) (H : Hp) (Q : Bool → Hp → Prop), Inv X pins σ H s → t σ H Q → wpAny (model X.prog X.w) X.A (isTrue e X.env (eval e X.env)) (TP X pins σ Q) X.xe s
/-- a test whatever its 'whole' is (and, or) -/
def PW (X : Cx) (e : Expr) (t : TT) : Prop :=
  ∀ (whole : Sem Value) (pins : List (Addr × Obj)) (s : Shared) (σ : St) (H : Hp) (Q : Bool → Hp → Prop), Inv X pins σ H s → t σ H Q → wpAny (model X.prog X.w) X.A (isTrue e X.env whole) (TP X pins σ Q) X.xe s
theorem PW.pt {X : Cx} {e : Expr} {t : TT} (h : PW X e t) : PT X e t := h _
/-- an argument list (no star), from the left -/
def PA (X : Cx) (es : List Expr) (t : TA) : Prop :=
  ∀ (pos : Pos) (pins : List (Addr × Obj)) (s : Shared) (σ : St) (H : Hp) (Q : List V → Hp → Prop), Inv X pins σ H s → t σ H Q → wpAny (model X.prog X.w) X.A (spliced (backTo pos (starEach es X.env))) (AP X pins σ Q) X.xe s
def PS (X : Cx) (st : Stmt) (t : TS) : Prop :=
  ∀ (pins : List (Addr × Obj)) (s : Shared) (σ : St) (H : Hp) (D : Ends), Inv X pins σ H s → t D σ H → wpAny (model X.prog X.w) X.A (exec st X.env) (SP X pins D) X.xe s
def PSs (X : Cx) (st : List Stmt) (t : TS) : Prop :=
  ∀ (pins : List (Addr × Obj)) (s : Shared) (σ : St) (H : Hp) (D : Ends), Inv X pins σ H s → t D σ H → wpAny (model X.prog X.w) X.A (execs st X.env) (SP X pins D) X.xe s
/-- weaken the end -/
theorem thn {α : Type} {t : Sem α} {Q Q' : α → Shared → Prop} {M : Model} {A : Around} {E : Value → Shared → Prop} {s : Shared} (h : wpAny M A t Q E s) (hQ : ∀ a s, Q a s → Q' a s) : wpAny M A t Q' E s := wpAny_mono h hQ fun _ _ x => x
end L2

namespace L2
open PySem PySem.Spec PyProof.Rows
section
variable {X : Cx}

/-! ### names and constants -/
def tVar (i : Nat) : TE := fun σ H Q => ∃ v, σ[i]? = some (some v) ∧ Q v H
def tC (v : V) : TE := fun _ H Q => Q v H
theorem pe_var {i : Nat} {x : Str} {pos : Pos} (hN : X.N[i]? = some x) (hv : Vis X.env.scope x) (hd : (x == ("__debug__" : Str)) = false := by decide) (hcd : (x == ("__classdict__" : Str)) = false := by decide) : PE X (.Name x pos) (tVar i) := by
  intro pins s σ H Q I h
  obtain ⟨v, e, h⟩ := h
  obtain ⟨m, hn, hl⟩ := I.loc
  obtain ⟨u, r, l⟩ := hl i x v hN e hv
  have fin : EP X pins σ Q u s := ⟨v, H, I, r, h⟩
  rcases l with ⟨hk, hm⟩ | ⟨hk, c, hc, hcell⟩
  · exact wpAny_Name (wpAny_loadName_local I.ok.kind hk hn hm fin) hd
  · rcases hk with hk | hk
    · exact wpAny_Name (wpAny_loadName_cell I.ok.kind hk hc hcell fin) hd
    · exact wpAny_Name (wpAny_loadName_free I.ok.kind hk hc hcell fin hcd) hd
theorem pe_int {i j pos} : PE X (.Constant (.int i) j pos) (tC (.int i)) := fun _ _ _ H _ I h => wpAny_Constant_int ⟨.int i, H, I.tok _, ⟨_, rfl⟩, h⟩
theorem pe_bl {b j pos} : PE X (.Constant (.bool b) j pos) (tC (.bl b)) := fun _ _ _ H _ I h => Constant_bool ⟨.bl b, H, I, rfl, h⟩
theorem pe_non {j pos} : PE X (.Constant .none j pos) (tC .non) := fun _ _ _ H _ I h => Constant_none ⟨.non, H, I, rfl, h⟩
theorem pe_str {x j pos} : PE X (.Constant (.str x) j pos) (tC (.str x)) := fun _ _ _ H _ I h => Calls.Constant_str ⟨.str x, H, I.tok _, ⟨_, rfl⟩, h⟩

/-- a global name of the def -/
def Gl (X : Cx) (x : Str) : Prop := X.env.kindOf x = some .globalImplicit
theorem ld_glob {E : Value → Shared → Prop} {pins : List (Addr × Obj)} {s : Shared} {σ : St} {H : Hp} {x : Str} {u : Value} {pos : Pos} {Q : Value → Shared → Prop} (I : Inv X pins σ H s) (hg : Gl X x) (hm : X.mg x = some u) (h : Q u s)
    (hd : (x == ("__debug__" : Str)) = false := by decide) : wpAny (model X.prog X.w) X.A (eval (.Name x pos) X.env) Q E s :=
  Calls.Name_function_global I.ok.kind hg (Calls.loadGlobal_global (by rw [I.ok.glob]; exact I.mod.glob.keeps I.bk) hm h) hd
theorem ld_blt {E : Value → Shared → Prop} {pins : List (Addr × Obj)} {s : Shared} {σ : St} {H : Hp} {x : Str} {u : Value} {pos : Pos} {Q : Value → Shared → Prop} (I : Inv X pins σ H s) (hg : Gl X x) (hm : X.mg x = none) (hv : bootBuiltins x = some u) (h : Q u s)
    (hn : x ≠ "__name__" := by decide) (hd : (x == ("__debug__" : Str)) = false := by decide) : wpAny (model X.prog X.w) X.A (eval (.Name x pos) X.env) Q E s := by
  obtain ⟨mb, h1, h2⟩ := I.mod.blt
  exact Calls.Name_function_global I.ok.kind hg (Calls.loadGlobal_builtin (by rw [I.ok.glob]; exact I.mod.glob.keeps I.bk) hm (by rw [I.ok.blt]; exact h1.keeps I.bk) ((h2 x hn).trans hv) h) hd
/-- a module's constant, a class, a function, as a value -/
theorem pe_glob {x : Str} {v : V} {u : Value} {pos : Pos} (hg : Gl X x) (hm : X.mg x = some u) (r : RelV v u) (hd : (x == ("__debug__" : Str)) = false := by decide) : PE X (.Name x pos) (tC v) :=
  fun _ _ _ H _ I h => ld_glob I hg hm ⟨v, H, I, r, h⟩ hd
theorem pe_bltn {x : Str} {v : V} {u : Value} {pos : Pos} (hg : Gl X x) (hm : X.mg x = none) (hv : bootBuiltins x = some u) (r : RelV v u) (hn : x ≠ "__name__" := by decide) (hd : (x == ("__debug__" : Str)) = false := by decide) : PE X (.Name x pos) (tC v) :=
  fun _ _ _ H _ I h => ld_blt I hg hm hv ⟨v, H, I, r, h⟩ hn hd

/-! ### arithmetic -/
variable {a b : Expr} {ta tb : TE} {pos : Pos}
/-! ### comparisons -/
/-- a comparison as a value, as a test -/
def tB (t : TE) : TT := fun σ H Q => t σ H fun x H1 => ∃ c, x = .bl c ∧ Q c H1
/-- an expression whose value is a bool, as a test -/
theorem pt_val {e : Expr} {t : TE} (h : PE X e t) (he : ∀ whole, isTrue e X.env whole = (do let v ← whole; standAt e.pos; holding [v] (truthy v)) := by intro _; rfl) : PT X e (tB t) := by
  intro pins s σ H Q I hw
  refine isTrue_plain (thn (h pins s σ H _ I hw) fun v s1 hz0 => ?_) (he _)
  obtain ⟨x, H1, I1, r1, q1⟩ := hz0
  obtain ⟨d, rfl, q⟩ := q1
  cases r1
  exact wpAny_truthy_bool ⟨H1, I1, q⟩

/-! ### and, or, not -/
variable {tA tB' : TT} {rest : List Expr}
def tAnd (t u : TT) : TT := fun σ H Q => t σ H fun c H1 => if c = true then u σ H1 Q else Q false H1
def tOr (t u : TT) : TT := fun σ H Q => t σ H fun c H1 => if c = true then Q true H1 else u σ H1 Q
def tNot (t : TT) : TT := fun σ H Q => t σ H fun c H1 => Q (!c) H1
theorem pw_and1 (ha : PT X a tA) : PW X (.BoolOp .And [a] pos) tA := by
  intro wh pins s σ H Q I h
  refine isTrue_and (thn (ha pins s σ H Q I h) fun c s1 e => ?_)
  cases c with
  | true => exact isTrue_and_nil e
  | false => exact e
theorem pw_or1 (ha : PT X a tA) : PW X (.BoolOp .Or [a] pos) tA := by
  intro wh pins s σ H Q I h
  refine isTrue_or (thn (ha pins s σ H Q I h) fun c s1 e => ?_)
  cases c with
  | false => exact isTrue_or_nil e
  | true => exact e
theorem pw_and (ha : PT X a tA) (hb : PW X (.BoolOp .And (b :: rest) pos) tB') : PW X (.BoolOp .And (a :: b :: rest) pos) (tAnd tA tB') := by
  intro wh pins s σ H Q I h
  refine isTrue_and (thn (ha pins s σ H _ I h) fun c s1 hz0 => ?_)
  obtain ⟨H1, I1, q1⟩ := hz0
  cases c with
  | true => exact hb wh pins s1 σ H1 Q I1 q1
  | false => exact ⟨H1, I1, q1⟩
theorem pw_or (ha : PT X a tA) (hb : PW X (.BoolOp .Or (b :: rest) pos) tB') : PW X (.BoolOp .Or (a :: b :: rest) pos) (tOr tA tB') := by
  intro wh pins s σ H Q I h
  refine isTrue_or (thn (ha pins s σ H _ I h) fun c s1 hz0 => ?_)
  obtain ⟨H1, I1, q1⟩ := hz0
  cases c with
  | true => exact ⟨H1, I1, q1⟩
  | false => exact hb wh pins s1 σ H1 Q I1 q1
theorem pt_not (ha : PT X a tA) : PT X (.UnaryOp .Not a pos) (tNot tA) := by
  intro pins s σ H Q I h
  exact isTrue_not (ha pins s σ H (fun c H1 => Q (!c) H1) I h)
/-- .. as values (bools) -/
def tAndV (ta tb : TE) : TE := fun σ H Q => ta σ H fun x H1 => ∃ c, x = .bl c ∧ if c = true then tb σ H1 Q else Q (.bl false) H1
def tNotV (ta : TE) : TE := fun σ H Q => ta σ H fun x H1 => ∃ c, x = .bl c ∧ Q (.bl (!c)) H1
theorem pe_one {op} {t : TE} (h : PE X a t) : PE X (.BoolOp op [a] pos) t := fun pins s σ H Q I hw => BoolOp_one (h pins s σ H Q I hw)
theorem pe_and (ha : PE X a ta) (hb : PE X (.BoolOp .And (b :: rest) pos) tb) : PE X (.BoolOp .And (a :: b :: rest) pos) (tAndV ta tb) := by
  intro pins s σ H Q I h
  refine BoolOp_and (thn (ha pins s σ H _ I h) fun v s1 hz0 => ?_)
  obtain ⟨x, H1, I1, r1, q1⟩ := hz0
  obtain ⟨c, rfl, q1⟩ := q1
  cases r1
  refine wpAny_truthy_bool ?_
  cases c with
  | true => exact hb pins s1 σ H1 Q I1 q1
  | false => exact ⟨.bl false, H1, I1, rfl, q1⟩
theorem pe_not (ha : PE X a ta) : PE X (.UnaryOp .Not a pos) (tNotV ta) := by
  intro pins s σ H Q I h
  refine UnaryOp_ (thn (ha pins s σ H _ I h) fun v s1 hz0 => ?_)
  obtain ⟨x, H1, I1, r1, q1⟩ := hz0
  obtain ⟨c, rfl, q1⟩ := q1
  cases r1
  exact not_of (wpAny_truthy_bool ⟨.bl (!c), H1, I1, rfl, q1⟩)
/-- a if t else b -/
def tIf (t : TT) (ta tb : TE) : TE := fun σ H Q => t σ H fun c H1 => if c = true then ta σ H1 Q else tb σ H1 Q
theorem pe_ifExp {c : Expr} (hc : PT X c tA) (ha : PE X a ta) (hb : PE X b tb) : PE X (.IfExp c a b pos) (tIf tA ta tb) := by
  intro pins s σ H Q I h
  refine wpAny_IfExp (thn (hc pins s σ H _ I h) fun d s1 hz0 => ?_)
  obtain ⟨H1, I1, q1⟩ := hz0
  cases d with
  | true => exact ha pins s1 σ H1 Q I1 q1
  | false => exact hb pins s1 σ H1 Q I1 q1
end
end L2

namespace L2
open PySem PySem.Spec PyProof.Rows

/-! ### a list, a tuple that is read: tracked, frozen, or an object of the module -/
def SqL (K : PySem.W.Frag) (H : Hp) (a : Addr) (xs : List V) : Prop :=
  Rd H a (.lst xs) ∨
    ∃ (o : Obj) (its : Array Value) (n : Nat), K.lookup a = some o ∧ o.cls = .type "list" ∧ o.dict = none ∧ o.data = .seq its n ∧ its.size ≤ sizeLine ∧ Vals xs its.toList
def SqT (K : PySem.W.Frag) (H : Hp) (a : Addr) (xs : List V) : Prop :=
  Rd H a (.tup xs) ∨
    ∃ (o : Obj) (its : Array Value) (n : Nat), K.lookup a = some o ∧ o.cls = .type "tuple" ∧ o.data = .seq its n ∧ its.size ≤ sizeLine ∧ Vals xs its.toList
def absV : Value → Option V
  | .none => some .non
  | .bool b => some (.bl b)
  | .int i _ => some (.int i)
  | .str x _ => some (.str x)
  | .bytes b _ => some (.byt b)
  | .float b _ => some (.flt b)
  | .ref a => some (.ref a)
  | .type n => some (.ty n)
  | _ => none
theorem RelV.abs {x : V} {u : Value} (r : RelV x u) : absV u = some x := by
  cases x with
  | non => cases r; rfl
  | bl _ => cases r; rfl
  | int _ => obtain ⟨t, rfl⟩ := r; rfl
  | str _ => obtain ⟨t, rfl⟩ := r; rfl
  | byt _ => obtain ⟨t, rfl⟩ := r; rfl
  | flt _ => obtain ⟨t, rfl⟩ := r; rfl
  | ref _ => cases r; rfl
  | ty _ => cases r; rfl
theorem RelV.inj {x y : V} {u : Value} (r : RelV x u) (q : RelV y u) : x = y := Option.some.inj (r.abs.symm.trans q.abs)
theorem Vals.inj : ∀ {xs ys : List V} {us : List Value}, Vals xs us → Vals ys us → xs = ys
  | _, _, _, .nil, .nil => rfl
  | _, _, _, .cons r t, .cons r' t' => by rw [r.inj r', Vals.inj t t']
section
variable {X : Cx} {pins : List (Addr × Obj)} {σ : St} {H : Hp} {s : Shared} {a : Addr} {xs ys : List V}
theorem SqL.of {K : PySem.W.Frag} (h : H a = some (.lst xs)) : SqL K H a xs := .inl (.inl h)
theorem SqT.of {K : PySem.W.Frag} (h : H a = some (.tup xs)) : SqT K H a xs := .inl (.inl h)
theorem Inv.list (I : Inv X pins σ H s) (h : SqL X.K H a xs) : ∃ its : List Value, Vals xs its ∧ PlainL s.heap a its.toArray ∧ xs.length ≤ sizeLine := by
  rcases h with h | ⟨o, its, n, hk, hc, hd, hs, hz, r⟩
  · obtain ⟨z, its, n, r, e⟩ := h.ok I.hok
    exact ⟨its, r, ⟨_, n, e, rfl, rfl, rfl⟩, z⟩
  · refine ⟨its.toList, r, ⟨o, n, I.kIn a o hk, hc, hd, by simpa using hs⟩, ?_⟩
    have e := r.length
    simp only [Array.length_toList] at e
    omega
theorem Inv.tuple (I : Inv X pins σ H s) (h : SqT X.K H a xs) : ∃ its : List Value, Vals xs its ∧ IsTup s.heap a its.toArray ∧ xs.length ≤ sizeLine := by
  rcases h with h | ⟨o, its, n, hk, hc, hs, hz, r⟩
  · obtain ⟨z, its, r, p⟩ := h.ok I.hok
    exact ⟨its, r, p.tup, z⟩
  · refine ⟨its.toList, r, ⟨o, I.kIn a o hk, hc, n, by simpa using hs⟩, ?_⟩
    have e := r.length
    simp only [Array.length_toList] at e
    omega
theorem Inv.list_inj (I : Inv X pins σ H s) (h : SqL X.K H a xs) (h' : SqL X.K H a ys) : xs = ys := by
  obtain ⟨its, r, ⟨o, n, e, _, _, d⟩, _⟩ := I.list h
  obtain ⟨its', r', ⟨o', n', e', _, _, d'⟩, _⟩ := I.list h'
  rw [e] at e'; cases e'
  rw [d] at d'
  injection d' with d1 _
  have : its = its' := by simpa using congrArg Array.toList d1
  subst this
  exact r.inj r'
theorem Inv.tuple_inj (I : Inv X pins σ H s) (h : SqT X.K H a xs) (h' : SqT X.K H a ys) : xs = ys := by
  obtain ⟨its, r, ⟨o, e, _, n, d⟩, _⟩ := I.tuple h
  obtain ⟨its', r', ⟨o', e', _, n', d'⟩, _⟩ := I.tuple h'
  rw [e] at e'; cases e'
  rw [d] at d'
  injection d' with d1 _
  have : its = its' := by simpa using congrArg Array.toList d1
  subst this
  exact r.inj r'
end

/-! ### another wish about exceptions -/
abbrev Cx.wish (X : Cx) (E : Value → Shared → Prop) : Cx := { X with xe := E }
/-- no exception leaves -/
abbrev Cx.nox (X : Cx) : Cx := X.wish fun _ _ => False
theorem Cx.Ok.wish {X : Cx} (ok : X.Ok) (E : Value → Shared → Prop) : (X.wish E).Ok :=
  ⟨ok.mod, ok.kind, ok.glob, ok.blt, ok.above, ok.inj, ok.has, ok.cab, ok.hd, ok.frames, ok.stk, ok.exf, ok.bs, ok.bsz, ok.noex, ok.exfs, ok.funs, ok.frf⟩
theorem Cx.Ok.unwish {X : Cx} {E : Value → Shared → Prop} (ok : (X.wish E).Ok) : X.Ok :=
  ⟨ok.mod, ok.kind, ok.glob, ok.blt, ok.above, ok.inj, ok.has, ok.cab, ok.hd, ok.frames, ok.stk, ok.exf, ok.bs, ok.bsz, ok.noex, ok.exfs, ok.funs, ok.frf⟩
section
variable {X : Cx} {pins : List (Addr × Obj)} {σ : St} {H : Hp} {s : Shared} {E : Value → Shared → Prop}
theorem Inv.wish (I : Inv X pins σ H s) (E : Value → Shared → Prop) : Inv (X.wish E) pins σ H s := ⟨I.ok.wish E, I.os, I.bare, I.base, I.loc, I.cell, I.free, I.freeC, I.pin, I.hok, I.len⟩
theorem Inv.unwish (I : Inv (X.wish E) pins σ H s) : Inv X pins σ H s := ⟨I.ok.unwish, I.os, I.bare, I.base, I.loc, I.cell, I.free, I.freeC, I.pin, I.hok, I.len⟩
theorem SP.unwish {D : Ends} {f : Flow} {s' : Shared} (h : SP (X.wish E) pins D f s') : SP X pins D f s' := by
  cases f with
  | next => obtain ⟨σ', H', I, q⟩ := h; exact ⟨σ', H', I.unwish, q⟩
  | brk => obtain ⟨σ', H', I, q⟩ := h; exact ⟨σ', H', I.unwish, q⟩
  | cont => obtain ⟨σ', H', I, q⟩ := h; exact ⟨σ', H', I.unwish, q⟩
  | ret u => obtain ⟨v, σ', H', I, r, q⟩ := h; exact ⟨v, σ', H', I.unwish, r, q⟩
theorem PSs.nox {st : List Stmt} {t : TS} (h : PSs X.nox st t) : PSs X st t := fun pins s σ H D I hw =>
  wpAny_mono (h pins s σ H D (I.wish _) hw) (fun _ _ q => q.unwish) fun _ _ z => False.elim z
end

/-! ### blocks and small statements -/
section
variable {X : Cx} {st : Stmt} {rest : List Stmt} {t u : TS} {e : Expr} {te : TE} {pos : Pos}
def tNext : TS := fun D σ H => D.nx σ H
def tSeq (t u : TS) : TS := fun D σ H => t { D with nx := u D } σ H
theorem pss_nil : PSs X [] tNext := fun _ _ σ H _ I h => wpAny_execs_nil ⟨σ, H, I, h⟩
theorem pss_cons (h1 : PS X st t) (h2 : PSs X rest u) : PSs X (st :: rest) (tSeq t u) := by
  intro pins s σ H D I h
  refine wpAny_execs_cons (thn (h1 pins s σ H { D with nx := u D } I h) fun f s1 q => ?_)
  cases f with
  | next =>
    obtain ⟨σ', H', I', q⟩ := q
    exact h2 pins s1 σ' H' D I' q
  | ret v => exact q
  | brk => exact q
  | cont => exact q
theorem pss_one (h1 : PS X st t) : PSs X [st] t := by
  intro pins s σ H D I h
  refine wpAny_execs_cons (thn (h1 pins s σ H D I h) fun f s1 q => ?_)
  cases f with
  | next => exact wpAny_execs_nil q
  | ret v => exact q
  | brk => exact q
  | cont => exact q
/-- in a def's body nothing is shown -/
theorem Inv.quiet {pins : List (Addr × Obj)} {σ : St} {H : Hp} {s : Shared} (I : Inv X pins σ H s) : interactive X.env = false := by simp [interactive, I.ok.kind]
/-- an expression whose value is dropped -/
def tDrop (te : TE) : TS := fun D σ H => te σ H fun _ H1 => D.nx σ H1
theorem ps_expr (he : PE X e te) (hs : swapsWith e none pos.line X.env = pure false := by rfl) : PS X (.Expr e pos) (tDrop te) := by
  intro pins s σ H D I h
  exact wpAny_Expr_any (thn (he pins s σ H _ I h) fun v s1 ⟨x, H1, I1, r1, q1⟩ => ⟨σ, H1, I1, q1⟩) I.quiet hs
def tRet (te : TE) : TS := fun D σ H => te σ H D.rt
theorem ps_ret (he : PE X e te) : PS X (.Return (some e) pos) (tRet te) := by
  intro pins s σ H D I h
  exact wpAny_Return_some (thn (he pins s σ H _ I h) fun v s1 ⟨x, H1, I1, r1, q1⟩ => ⟨x, σ, H1, I1, r1, q1⟩)
def tIfS (c : TT) (t u : TS) : TS := fun D σ H => c σ H fun b H1 => if b = true then t D σ H1 else u D σ H1
theorem ps_if {c : Expr} {a b : List Stmt} {tc : TT} (hc : PT X c tc) (ha : PSs X a t) (hb : PSs X b u) : PS X (.If c a b pos) (tIfS tc t u) := by
  intro pins s σ H D I h
  refine wpAny_If (thn (hc pins s σ H _ I h) fun d s1 hz0 => ?_)
  obtain ⟨H1, I1, q1⟩ := hz0
  cases d with
  | true => exact ha pins s1 σ H1 D I1 q1
  | false => exact hb pins s1 σ H1 D I1 q1
end

/-! ### targets -/
abbrev TG := V → St → Hp → (St → Hp → Prop) → Prop
abbrev TGs := List V → St → Hp → (St → Hp → Prop) → Prop
def PG (X : Cx) (target : Expr) (t : TG) : Prop :=
  ∀ (pins : List (Addr × Obj)) (s : Shared) (σ : St) (H : Hp) (v : V) (u : Value) (Q : St → Hp → Prop), Inv X pins σ H s → RelV v u → t v σ H Q →
    wpAny (model X.prog X.w) X.A (assign target X.env u) (fun _ s' => ∃ σ' H', Inv X pins σ' H' s' ∧ Q σ' H') X.xe s
/-- several targets, one after another -/
def PGs (X : Cx) (ts : List Expr) (t : TGs) : Prop :=
  ∀ (pins : List (Addr × Obj)) (s : Shared) (σ : St) (H : Hp) (vs : List V) (us : List Value) (Q : St → Hp → Prop), Inv X pins σ H s → Vals vs us → t vs σ H Q →
    wpAny (model X.prog X.w) X.A (assignInOrder ((assignEach ts X.env).map (·.2)) us) (fun _ s' => ∃ σ' H', Inv X pins σ' H' s' ∧ Q σ' H') X.xe s
/-- o[i] = v, by values -/
abbrev TSet := V → V → V → Hp → (Hp → Prop) → Prop
def PSet (X : Cx) (t : TSet) : Prop :=
  ∀ (pins : List (Addr × Obj)) (s : Shared) (σ : St) (H : Hp) (o i v : V) (ov iv u : Value) (Q : Hp → Prop), Inv X pins σ H s → RelV o ov → RelV i iv → RelV v u → t o i v H Q →
    wpAny (model X.prog X.w) X.A (setItem ov iv u) (fun _ s' => ∃ H', Inv X pins σ H' s' ∧ Q H') X.xe s
/-- a op= b, by values -/
abbrev TIp := V → V → Hp → VK → Prop
def PIp (X : Cx) (op : Operator) (t : TIp) : Prop :=
  ∀ (pins : List (Addr × Obj)) (s : Shared) (σ : St) (H : Hp) (x y : V) (v u : Value) (Q : VK), Inv X pins σ H s → RelV x v → RelV y u → t x y H Q →
    wpAny (model X.prog X.w) X.A (inplaceOp op v u) (EP X pins σ Q) X.xe s
section
variable {X : Cx} {pos : Pos}
def gName (i : Nat) : TG := fun v σ H Q => Q (σ.set i (some v)) H
theorem pg_name {i : Nat} {x : Str} (hN : X.N.Nodup) (hi : X.N[i]? = some x) (hx : Loc X.env.scope x) (hf : X.fn x = true ∨ X.env.scope.names.lookup x = some .local := by first | exact .inl rfl | exact .inr rfl | assumption) : PG X (.Name x pos) (gName i) := by
  intro pins s σ H v u Q I r h
  exact wpAny_assign_Name (store_ok I hN hi hx r (fun s' I' => ⟨_, H, I', h⟩) hf)
def gNil : TGs := fun vs σ H Q => vs = [] ∧ Q σ H
def gCons (t : TG) (u : TGs) : TGs := fun vs σ H Q => ∃ v r, vs = v :: r ∧ t v σ H fun σ' H' => u r σ' H' Q
theorem pgs_nil : PGs X [] gNil := by
  intro pins s σ H vs us Q I r h
  obtain ⟨e, h⟩ := h
  subst e
  cases r
  exact assignInOrder_nil ⟨σ, H, I, h⟩
theorem pgs_cons {e : Expr} {es : List Expr} {t : TG} {u : TGs} (h1 : PG X e t) (h2 : PGs X es u)
    (hs : (assignEach (e :: es) X.env).map (·.2) = assign e X.env :: (assignEach es X.env).map (·.2) := by rfl) : PGs X (e :: es) (gCons t u) := by
  intro pins s σ H vs us Q I r h
  obtain ⟨v, vr, e1, h⟩ := h
  subst e1
  cases r with
  | cons r rr =>
    rw [hs]
    refine assignInOrder_cons (thn (h1 pins s σ H _ _ _ I r h) fun _ s1 hz0 => ?_)
    obtain ⟨σ1, H1, I1, q1⟩ := hz0
    exact h2 pins s1 σ1 H1 _ _ Q I1 rr q1
/-- (a, b, ..) = a tuple of that length -/
def gTup (K : PySem.W.Frag) (n : Nat) (t : TGs) : TG := fun v σ H Q => ∃ a xs, v = .ref a ∧ SqT K H a xs ∧ xs.length = n ∧ t xs σ H Q
theorem pg_tup {es : List Expr} {k : Nat} {t : TGs} {n : Nat} (hc : X.calm = true) (h : PGs X es t)
    (hn : (assignEach es X.env).length = n := by rfl) (hst : (assignEach es X.env).findIdx? (·.1) = none := by rfl) : PG X (.Tuple es k pos) (gTup X.K n t) := by
  intro pins s σ H v u Q I r hw
  obtain ⟨a, xs, e1, hq, hl, hw⟩ := hw
  subst e1
  cases r
  obtain ⟨its, rv, ht, hz⟩ := I.tuple hq
  refine assign_Tuple_tuple (I.ok.hd hc) ht (by simp [hn, ← hl, rv.length]) hst fun h' hx => ?_
  have I1 : Inv X pins σ H { s with heap := h' } := I.kept (t' := s.toks) fun b o e => hx b o (Nat.ne_of_lt (Heap.lt_size e)) e
  exact h pins _ σ H xs _ Q I1 (by simpa using rv) hw
/-- o[i] = .. -/
def gSub (to ti : TE) (t : TSet) : TG := fun v σ H Q => to σ H fun o H1 => ti σ H1 fun i H2 => t o i v H2 fun H3 => Q σ H3
theorem pg_sub {o i : Expr} {to ti : TE} {t : TSet} (ho : PE X o to) (hi : PE X i ti) (hs : PSet X t)
    (ha : ∀ v, assign (.Subscript o i pos) X.env v = (do
      let ov ← holding [v] (eval o X.env)
      let iv ← holding [v, ov] (eval i X.env)
      standAt pos
      holding [v, ov, iv] (setItem ov iv v)
      release [v, ov, iv] []) := by intro _; rfl) : PG X (.Subscript o i pos) (gSub to ti t) := by
  intro pins s σ H v u Q I r h
  rw [ha]
  refine wpAny_bind (wpAny_holding (thn (ho pins s σ H _ I h) fun ov s1 hz0 => ?_))
  obtain ⟨x, H1, I1, r1, q1⟩ := hz0
  refine wpAny_bind (wpAny_holding (thn (hi pins s1 σ H1 _ I1 q1) fun iv s2 hz0 => ?_))
  obtain ⟨y, H2, I2, r2, q2⟩ := hz0
  refine wpAny_bind (wpAny_standAt (wpAny_bind (wpAny_holding (thn (hs pins s2 σ H2 x y v ov iv u _ I2 r1 r2 r q2) fun _ s3 hz0 => ?_))))
  obtain ⟨H3, I3, q3⟩ := hz0
  exact wpAny_release ⟨σ, H3, I3, q3⟩
/-- target = value -/
def tAsg (te : TE) (g : TG) : TS := fun D σ H => te σ H fun x H1 => g x σ H1 D.nx
theorem ps_asg {tg e : Expr} {te : TE} {g : TG} (he : PE X e te) (hg : PG X tg g) (hs : swapsWithSole [tg] e pos.line X.env = pure false := by rfl) (hw : swappedStores [tg] e X.env = pure none := by rfl)
    (h1 : (assignEach [tg] X.env).map (·.2) = [assign tg X.env] := by rfl) : PS X (.Assign [tg] e pos) (tAsg te g) := by
  intro pins s σ H D I h
  refine wpAny_Assign_stores (thn (he pins s σ H _ I h) fun v s1 hz0 => ?_) hs hw
  obtain ⟨x, H1, I1, r1, q1⟩ := hz0
  rw [h1]
  exact thn (hg pins s1 σ H1 x v _ I1 r1 q1) fun _ s2 q => q
/-- name = value -/
theorem ps_set {i : Nat} {x : Str} {e : Expr} {te : TE} {pos' : Pos} (hN : X.N.Nodup) (hi : X.N[i]? = some x) (hx : Loc X.env.scope x) (he : PE X e te) (hs : swapsWith e (some (.Name x pos')) pos.line X.env = pure false := by rfl) (hf : X.fn x = true ∨ X.env.scope.names.lookup x = some .local := by first | exact .inl rfl | exact .inr rfl | assumption) :
    PS X (.Assign [.Name x pos'] e pos) (tAsg te (gName i)) := by
  intro pins s σ H D I h
  refine wpAny_Assign_Name (thn (he pins s σ H _ I h) fun v s1 hz0 => ?_) hs
  obtain ⟨y, H1, I1, r1, q1⟩ := hz0
  exact store_ok I1 hN hi hx r1 (fun s2 I2 => ⟨_, H1, I2, q1⟩) hf
/-- name op= e -/
def tAug (i : Nat) (te : TE) (ti : TIp) : TS := fun D σ H => ∃ x, σ[i]? = some (some x) ∧ te σ H fun y H1 => ti x y H1 fun z H2 => D.nx (σ.set i (some z)) H2
theorem ps_aug {i : Nat} {x : Str} {e : Expr} {te : TE} {op : Operator} {ti : TIp} {pos' : Pos} (hN : X.N.Nodup) (hi : X.N[i]? = some x) (hx : Loc X.env.scope x) (he : PE X e te) (ho : PIp X op ti) (hf : X.fn x = true ∨ X.env.scope.names.lookup x = some .local := by first | exact .inl rfl | exact .inr rfl | assumption) :
    PS X (.AugAssign (.Name x pos') op e pos) (tAug i te ti) := by
  intro pins s σ H D I h
  obtain ⟨v, e1, h⟩ := h
  obtain ⟨m, hn, hl⟩ := I.loc
  have vis : Vis X.env.scope x := by rcases hx with k | k; exact .inl k; exact .inr (.inl k)
  obtain ⟨u, r, l⟩ := hl i x v hi e1 vis
  refine wpAny_AugAssign_Name ?_
  have go : wpAny (model X.prog X.w) X.A (eval e X.env) (fun w s₂ => wpAny (model X.prog X.w) X.A (inplaceOp op u w) (fun r s₃ => wpAny (model X.prog X.w) X.A (storeName X.env x r) (fun _ => SP X pins D .next) X.xe s₃) X.xe s₂) X.xe s := by
    refine thn (he pins s σ H _ I h) fun w s1 hz0 => ?_
    obtain ⟨y, H1, I1, r1, q1⟩ := hz0
    refine thn (ho pins s1 σ H1 v y u w _ I1 r r1 q1) fun z s2 hz0 => ?_
    obtain ⟨zv, H2, I2, r2, q2⟩ := hz0
    exact store_ok I2 hN hi hx r2 (fun s3 I3 => ⟨_, H2, I3, q2⟩) hf
  rcases l with ⟨hk, hm⟩ | ⟨hk, c, hc, hcell⟩
  · exact wpAny_loadName_local I.ok.kind hk hn hm go
  · rcases hk with hk | hk
    · exact wpAny_loadName_cell I.ok.kind hk hc hcell go
    · rcases hx with k | k
      · have : X.env.scope.names.lookup x = some .free := hk
        rw [k] at this; cases this
      · have : X.env.scope.names.lookup x = some .free := hk
        rw [k] at this; cases this
/-- ints -/
def ipI (f : Int → Int → Int) : TIp := fun x y H Q => ∃ i j, x = .int i ∧ y = .int j ∧ Q (.int (f i j)) H
theorem ip_add : PIp X .Add (ipI fun i j => i + j) := by
  intro pins s σ H x y v u Q I r1 r2 h
  obtain ⟨i, j, e1, e2, q⟩ := h
  subst e1; subst e2
  obtain ⟨t, rfl⟩ := r1
  obtain ⟨t', rfl⟩ := r2
  exact iadd_int ⟨.int _, H, I.tok _, ⟨_, rfl⟩, q⟩
theorem ip_sub : PIp X .Sub (ipI fun i j => i - j) := by
  intro pins s σ H x y v u Q I r1 r2 h
  obtain ⟨i, j, e1, e2, q⟩ := h
  subst e1; subst e2
  obtain ⟨t, rfl⟩ := r1
  obtain ⟨t', rfl⟩ := r2
  exact isub_int ⟨.int _, H, I.tok _, ⟨_, rfl⟩, q⟩
end

/-! ### while -/
section
variable {X : Cx} {pos : Pos}
/-- the invariant W with its measure -/
def tWhile (c : TT) (tb : TS) : TS := fun D σ H => ∃ W : Nat → St → Hp → Prop, (∃ m, W m σ H) ∧ ∀ m σ H, W m σ H →
  c σ H fun b H1 => if b = true then ∃ N : St → Hp → Prop, (∀ σ' H', N σ' H' → ∃ m', m' < m ∧ W m' σ' H') ∧ tb { D with nx := N, ct := N, bk := D.nx } σ H1 else D.nx σ H1
theorem ps_while {c : Expr} {body : List Stmt} {tc : TT} {tb : TS} (hp : PassesOwn (model X.prog X.w) X.A X.env X.xe) (hc : PT X c tc) (hb : PSs X body tb) : PS X (.While c body [] pos) (tWhile tc tb) := by
  intro pins s σ H D I h
  obtain ⟨W, ⟨m0, w0⟩, turn⟩ := h
  refine wpAny_While (codeAny_whileLoop (fun n s' => ∃ σ' H', Inv X pins σ' H' s' ∧ W n σ' H') ?_ m0 ⟨σ, H, I, w0⟩)
  rintro n s1 ⟨σ1, H1, I1, w1⟩
  refine wpAny_passesOwn hp (thn (hc pins s1 σ1 H1 _ I1 (turn n σ1 H1 w1)) fun b s2 hz0 => ?_)
  obtain ⟨H2, I2, q2⟩ := hz0
  cases b with
  | true =>
    obtain ⟨N, hN, q2⟩ := q2
    rw [if_pos rfl]
    refine wpAny_passesOwn hp (thn (hb pins s2 σ1 H2 _ I2 q2) fun f s3 q3 => ?_)
    cases f with
    | next =>
      obtain ⟨σ3, H3, I3, n3⟩ := q3
      obtain ⟨m', hm, w3⟩ := hN σ3 H3 n3
      exact ⟨m', hm, σ3, H3, I3, w3⟩
    | cont =>
      obtain ⟨σ3, H3, I3, n3⟩ := q3
      obtain ⟨m', hm, w3⟩ := hN σ3 H3 n3
      exact ⟨m', hm, σ3, H3, I3, w3⟩
    | brk => exact q3
    | ret v => exact q3
  | false =>
    rw [if_neg Bool.false_ne_true]
    exact wpAny_execs_nil ⟨σ1, H2, I2, q2⟩
end

/-! ### what a loop or a comprehension walks -/
/-- at turn i: it yields x (the heap may grow), or it stops -/
structure It where
  go : Nat → Hp → Prop
  yld : Nat → Hp → V → Hp → Prop
  stop : Nat → Hp → Prop
/-- the iterator's own objects may turn: they are not the frame's, not pinned, younger than the entry (or a comprehension's own) -/
def FpOk (X : Cx) (pins : List (Addr × Obj)) (H : Hp) (b : Addr) : Prop :=
  H b = none ∧ b ≠ X.env.locals ∧ b ∉ X.fs ∧ (b ∈ X.ex ∨ X.s₀.heap.objs.size ≤ b) ∧ (∀ x c, X.env.cells.lookup x = some c → c ≠ b) ∧ ∀ p ∈ X.pn ++ pins, p.1 ≠ b
theorem Inv.fpOk {X : Cx} {pins : List (Addr × Obj)} {σ : St} {H H' : Hp} {s : Shared} {b : Addr} (I : Inv X pins σ H s) (hb : s.heap.objs.size ≤ b) (hn : H' b = none) : FpOk X pins H' b := by
  refine ⟨hn, Nat.ne_of_gt (Nat.lt_of_lt_of_le I.lt hb), I.nofs hb, .inr (Nat.le_trans I.sz hb), fun x c e z => ?_, fun p hp z => ?_⟩
  · obtain ⟨v, q⟩ := I.cell x c e
    exact absurd (Nat.lt_of_lt_of_le q.lt (by rw [z]; exact hb)) (Nat.lt_irrefl _)
  · exact absurd (Nat.lt_of_lt_of_le (Heap.lt_size (I.pin p hp).1) (by rw [z]; exact hb)) (Nat.lt_irrefl _)
structure Turn (P : Program) (w : World) (K : PySem.W.Frag) (tg : Expr) (J : It) (fp : List Addr) (it : Addr) (tn : Nat → Heap → Prop) : Prop where
  mem : it ∈ fp
  obj : ∀ i h, tn i h → ∀ b ∈ fp, ∃ o, h.get? b = some o ∧ ∀ v, o.data ≠ .cell v
  keep : ∀ i h h', tn i h → (∀ b ∈ fp, ∀ o, h.get? b = some o → h'.get? b = some o) → tn i h'
  item : ∀ (X : Cx), X.prog = P → X.w = w → X.K = K → X.calm = true → ∀ (i : Nat) (pins : List (Addr × Obj)) (s : Shared) (σ : St) (H : Hp) (E : Value → Shared → Prop), Inv X pins σ H s → (∀ b ∈ fp, FpOk X pins H b) → tn i s.heap → J.go i H →
    wpAny (model P w) X.A (pyNext (.ref it)) (fun r s1 => ∃ u, r = some u ∧
      wpAny (model P w) X.A (letOwnedTupleGo tg (.ref it) u) (fun _ s2 => ∃ x H', Inv X pins σ H' s2 ∧ RelV x u ∧ J.yld i H x H' ∧ tn (i + 1) s2.heap ∧ ∀ b ∈ fp, H' b = none) E s1) E s
  done : ∀ (X : Cx), X.prog = P → X.w = w → X.K = K → X.calm = true → ∀ (i : Nat) (pins : List (Addr × Obj)) (s : Shared) (σ : St) (H : Hp) (E : Value → Shared → Prop), Inv X pins σ H s → (∀ b ∈ fp, FpOk X pins H b) → tn i s.heap → J.stop i H →
    wpAny (model P w) X.A (pyNext (.ref it)) (fun r s1 => r = none ∧ Inv X pins σ H s1) E s
  self : ∀ (A : Around) (i : Nat) (s : Shared) (Q : Value → Shared → Prop) (E : Value → Shared → Prop), tn i s.heap → Q (.ref it) s → wpAny (model P w) A (pyIter (.ref it)) Q E s
abbrev TI := St → Hp → (It → Hp → Prop) → Prop
/-- an iterator has come -/
def PIE (X : Cx) (pins : List (Addr × Obj)) (σ : St) (tg : Expr) (R : It → Hp → Prop) (itv : Value) (s2 : Shared) : Prop :=
  ∃ (it : Addr) (fp : List Addr) (tn : Nat → Heap → Prop) (J : It) (H' : Hp), itv = .ref it ∧ Inv X pins σ H' s2 ∧ Turn X.prog X.w X.K tg J fp it tn ∧ tn 0 s2.heap ∧ (∀ b ∈ fp, FpOk X pins H' b) ∧ R J H'
def PI (X : Cx) (tg iter : Expr) (wi : TI) : Prop :=
  ∀ (pins : List (Addr × Obj)) (s : Shared) (σ : St) (H : Hp) (R : It → Hp → Prop), Inv X pins σ H s → wi σ H R →
    wpAny (model X.prog X.w) X.A (eval iter X.env) (fun v s1 => wpAny (model X.prog X.w) X.A (pyIter v) (PIE X pins σ tg R) X.xe s1) X.xe s

/-- the step ahead of the store is nothing for an iterator that keeps no tuple -/
theorem go_of {M : Model} {A : Around} {E : Value → Shared → Prop} {s : Shared} {tg : Expr} {it : Addr} {u : Value} {o : Obj} {n : String} {vs : Array Value} {Q : Unit → Shared → Prop} (ho : s.heap.get? it = some o) (hc : o.cls = .type n) (hd : o.data = .fields vs)
    (hn : ["enumerate", "zip", "dict_itemiterator", "dict_reverseitemiterator", "odict_iterator", "itertools.zip_longest", "itertools.pairwise"].contains n = false) (hQ : Q () s) : wpAny M A (letOwnedTupleGo tg (.ref it) u) Q E s := by
  unfold letOwnedTupleGo
  cases tg <;> first
    | exact wpAny_pure hQ
    | (cases u <;> first
        | exact wpAny_pure hQ
        | (refine wpAny_bind (wpAny_load ho ?_)
           rw [hc, hd]
           show wpAny M A (if (["enumerate", "zip", "dict_itemiterator", "dict_reverseitemiterator", "odict_iterator", "itertools.zip_longest", "itertools.pairwise"].contains n && vs[0]? == some (rawInt _)) = true then _ else _) Q E s
           rw [if_neg (by intro h; rw [hn, Bool.false_and] at h; cases h)]
           exact wpAny_pure hQ))

/-- the list at a, as it stands at each turn (a loop may append to it) -/
def Itl (K : PySem.W.Frag) (a : Addr) : It :=
  ⟨fun i H => ∃ xs x, SqL K H a xs ∧ xs[i]? = some x, fun i H x H' => H' = H ∧ ∀ xs, SqL K H a xs → xs[i]? = some x, fun i H => ∃ xs, SqL K H a xs ∧ xs.length ≤ i⟩
def Itt (K : PySem.W.Frag) (a : Addr) : It :=
  ⟨fun i H => ∃ xs x, SqT K H a xs ∧ xs[i]? = some x, fun i H x H' => H' = H ∧ ∀ xs, SqT K H a xs → xs[i]? = some x, fun i H => ∃ xs, SqT K H a xs ∧ xs.length ≤ i⟩
/-- lo, lo + 1, .. (n of them) -/
def Itr (lo : Int) (n : Nat) : It := ⟨fun i _ => i < n, fun i H x H' => H' = H ∧ x = .int (lo + i), fun i _ => n ≤ i⟩
theorem turn_list {P : Program} {w : World} {K : PySem.W.Frag} {tg : Expr} (a it : Addr) : Turn P w K tg (Itl K a) [it] it (fun i h => h.IsListIter it a i) where
  mem := by simp
  obj := fun i h st b hb => by
    have e : b = it := by simpa using hb
    subst e
    obtain ⟨o, e, c, d⟩ := st
    exact ⟨o, e, fun v z => by rw [d] at z; cases z⟩
  keep := fun i h h' st k => st.at fun o e => k it (by simp) o e
  item := by
    intro X hP hw hK hc i pins s σ H E I hf st hg
    subst hP hw hK
    obtain ⟨xs, x, hq, hx⟩ := hg
    obtain ⟨its, rv, p, hz⟩ := I.list hq
    obtain ⟨u, hu, ru⟩ := rv.get hx
    obtain ⟨f0, f1, f2, f3, f4, f5⟩ := hf it (by simp)
    refine wpAny_pyNext_list_item st p.isList (x := u) (by simpa using hu) fun h' st' sb => ?_
    have I1 : Inv X pins σ H { s with heap := h' } := I.turned (t' := s.toks) (fun b o hb e => (sb.2 b hb).trans e) f0 f1 f3 f4 f5
    obtain ⟨o, e, c, d⟩ := id st'
    exact ⟨u, rfl, go_of (s := { s with heap := h' }) e c d (by decide) ⟨x, H, I1, ru, ⟨rfl, fun ys hy => by rw [I.list_inj hy hq]; exact hx⟩, st', fun b hb => (hf b hb).1⟩⟩
  done := by
    intro X hP hw hK hc i pins s σ H E I hf st hg
    subst hP hw hK
    obtain ⟨xs, hq, hx⟩ := hg
    obtain ⟨its, rv, p, hz⟩ := I.list hq
    obtain ⟨f0, f1, f2, f3, f4, f5⟩ := hf it (by simp)
    have hl := rv.length
    exact wpAny_pyNext_list_end (I.ok.hd hc) st p.isList (by simp; omega) fun h' eb => ⟨rfl, I.turned (t' := s.toks) (fun b o hb e => eb b o hb e) f0 f1 f3 f4 f5⟩
  self := fun _ _ _ _ _ st h => wpAny_pyIter_listiter st h
theorem turn_tuple {P : Program} {w : World} {K : PySem.W.Frag} {tg : Expr} (a it : Addr) : Turn P w K tg (Itt K a) [it] it (fun i h => h.IsTupleIter it a i) where
  mem := by simp
  obj := fun i h st b hb => by
    have e : b = it := by simpa using hb
    subst e
    obtain ⟨o, e, c, d⟩ := st
    exact ⟨o, e, fun v z => by rw [d] at z; cases z⟩
  keep := fun i h h' st k => st.at fun o e => k it (by simp) o e
  item := by
    intro X hP hw hK hc i pins s σ H E I hf st hg
    subst hP hw hK
    obtain ⟨xs, x, hq, hx⟩ := hg
    obtain ⟨its, rv, p, hz⟩ := I.tuple hq
    obtain ⟨u, hu, ru⟩ := rv.get hx
    obtain ⟨f0, f1, f2, f3, f4, f5⟩ := hf it (by simp)
    refine wpAny_pyNext_tuple_item st (show s.heap.IsTuple a its.toArray from p) (x := u) (by simpa using hu) fun h' st' sb => ?_
    have I1 : Inv X pins σ H { s with heap := h' } := I.turned (t' := s.toks) (fun b o hb e => (sb.2 b hb).trans e) f0 f1 f3 f4 f5
    obtain ⟨o, e, c, d⟩ := id st'
    exact ⟨u, rfl, go_of (s := { s with heap := h' }) e c d (by decide) ⟨x, H, I1, ru, ⟨rfl, fun ys hy => by rw [I.tuple_inj hy hq]; exact hx⟩, st', fun b hb => (hf b hb).1⟩⟩
  done := by
    intro X hP hw hK hc i pins s σ H E I hf st hg
    subst hP hw hK
    obtain ⟨xs, hq, hx⟩ := hg
    obtain ⟨its, rv, p, hz⟩ := I.tuple hq
    obtain ⟨f0, f1, f2, f3, f4, f5⟩ := hf it (by simp)
    have hl := rv.length
    exact wpAny_pyNext_tuple_end (I.ok.hd hc) st (show s.heap.IsTuple a its.toArray from p) (by simp; omega) fun h' eb => ⟨rfl, I.turned (t' := s.toks) (fun b o hb e => eb b o hb e) f0 f1 f3 f4 f5⟩
  self := fun _ _ _ _ _ st h => wpAny_pyIter_tupleiter st h
theorem turn_range {P : Program} {w : World} {K : PySem.W.Frag} {tg : Expr} (it : Addr) (lo : Int) (n : Nat) : Turn P w K tg (Itr lo n) [it] it (fun i h => IsRangeIter h it (lo + (i : Nat) * 1) ((n : Int) - (i : Nat)) 1) where
  mem := by simp
  obj := fun i h st b hb => by
    have e : b = it := by simpa using hb
    subst e
    exact ⟨_, st, fun v z => by
      have z' : Data.fields _ = Data.cell v := z
      cases z'⟩
  keep := fun i h h' st k => k it (by simp) _ st
  item := by
    intro X hP hw hK hc i pins s σ H E I hf st hg
    subst hP hw hK
    obtain ⟨f0, f1, f2, f3, f4, f5⟩ := hf it (by simp)
    have W := Walks.range (prog := X.prog) (w := X.w) (I.ok.hd hc) it lo 1 n
    refine W.item i s _ _ hg st fun v h' tk hv st' kk => ?_
    obtain ⟨t, rfl⟩ := hv
    have I1 : Inv X pins σ H { s with heap := h', toks := tk } := I.turned (fun b o hb e => kk b o (by simpa using hb) e) f0 f1 f3 f4 f5
    refine ⟨_, rfl, go_of (s := { s with heap := h', toks := tk }) (n := "range_iterator") st' rfl rfl (by decide) ⟨.int (lo + i), H, I1, ⟨t, ?_⟩, ⟨rfl, rfl⟩, st', fun b hb => (hf b hb).1⟩⟩
    rw [Int.mul_one]
  done := by
    intro X hP hw hK hc i pins s σ H E I hf st hg
    subst hP hw hK
    obtain ⟨f0, f1, f2, f3, f4, f5⟩ := hf it (by simp)
    exact wpAny_pyNext_range_end (I.ok.hd hc) st (by have : n ≤ i := hg; omega) fun h' eb => ⟨rfl, I.turned (t' := s.toks) (fun b o hb e => eb b o hb e) f0 f1 f3 f4 f5⟩
  self := fun _ _ _ _ _ st h => wpAny_pyIter_rangeiter st h
end L2

namespace L2
open PySem PySem.Spec PyProof.Rows
section
variable {X : Cx} {tg : Expr}
def iList (K : PySem.W.Frag) (tl : TE) : TI := fun σ H R => tl σ H fun x H1 => ∃ a, x = .ref a ∧ (∃ xs, SqL K H1 a xs) ∧ R (Itl K a) H1
def iTup (K : PySem.W.Frag) (tl : TE) : TI := fun σ H R => tl σ H fun x H1 => ∃ a, x = .ref a ∧ (∃ xs, SqT K H1 a xs) ∧ R (Itt K a) H1
theorem pi_list {l : Expr} {tl : TE} (hl : PE X l tl) : PI X tg l (iList X.K tl) := by
  intro pins s σ H R I h
  refine thn (hl pins s σ H _ I h) fun v s1 hz0 => ?_
  obtain ⟨x, H1, I1, r1, q1⟩ := hz0
  obtain ⟨a, e, ⟨xs, hq⟩, q⟩ := q1
  subst e
  cases r1
  obtain ⟨its, rv, p, hz⟩ := I1.list hq
  refine wpAny_pyIter_list p.isList ?_
  refine ⟨s1.heap.objs.size, [s1.heap.objs.size], _, _, H1, rfl, I1.kept (t' := s1.toks) fun b o e => Heap.get?_push_of_some _ e, turn_list a _, ⟨_, Heap.get?_push_size _ rfl, rfl, rfl⟩, fun b hb => ?_, q⟩
  have e : b = s1.heap.objs.size := by simpa using hb
  subst e
  exact I1.fpOk (Nat.le_refl _) (I1.hok.fresh (Nat.le_refl _))
theorem pi_tup {l : Expr} {tl : TE} (hl : PE X l tl) : PI X tg l (iTup X.K tl) := by
  intro pins s σ H R I h
  refine thn (hl pins s σ H _ I h) fun v s1 hz0 => ?_
  obtain ⟨x, H1, I1, r1, q1⟩ := hz0
  obtain ⟨a, e, ⟨xs, hq⟩, q⟩ := q1
  subst e
  cases r1
  obtain ⟨its, rv, p, hz⟩ := I1.tuple hq
  refine wpAny_pyIter_tuple (show s1.heap.IsTuple a its.toArray from p) ?_
  refine ⟨s1.heap.objs.size, [s1.heap.objs.size], _, _, H1, rfl, I1.kept (t' := s1.toks) fun b o e => Heap.get?_push_of_some _ e, turn_tuple a _, ⟨_, Heap.get?_push_size _ rfl, rfl, rfl⟩, fun b hb => ?_, q⟩
  have e : b = s1.heap.objs.size := by simpa using hb
  subst e
  exact I1.fpOk (Nat.le_refl _) (I1.hok.fresh (Nat.le_refl _))
/-- a range object just made, walked -/
theorem range_it {pins : List (Addr × Obj)} {σ : St} {H : Hp} {s : Shared} {R : It → Hp → Prop} {E : Value → Shared → Prop} {lo hi : Int} {t u v : Tok} {tk : Nat} (I : Inv X pins σ H s) (h1 : -(2 ^ 62) ≤ lo) (h2 : lo < 2 ^ 62) (h3 : -(2 ^ 62) ≤ hi) (h4 : hi < 2 ^ 62)
    (q : R (Itr lo (hi - lo).toNat) H) : wpAny (model X.prog X.w) X.A (pyIter (.ref s.heap.objs.size)) (PIE X pins σ tg R) E { s with heap := s.heap.push { cls := .type "range", data := .fields #[.int lo t, .int hi u, .int 1 v] }, toks := tk } := by
  refine wpAny_pyIter_range (IsRange.new ..) (small_one h1 h2 h3 h4) ?_
  have I1 : Inv X pins σ H { s with heap := s.heap.push { cls := .type "range", data := .fields #[.int lo t, .int hi u, .int 1 v] }, toks := tk } := I.kept fun b o e => Heap.get?_push_of_some _ e
  refine ⟨(s.heap.push { cls := .type "range", data := .fields #[.int lo t, .int hi u, .int 1 v] }).objs.size, [(s.heap.push { cls := .type "range", data := .fields #[.int lo t, .int hi u, .int 1 v] }).objs.size], _, _, H, rfl,
    I1.kept (t' := tk) fun b o e => Heap.get?_push_of_some _ e, turn_range _ lo (hi - lo).toNat, ?_, fun b hb => ?_, q⟩
  · have e1 : lo + ((0 : Nat) : Int) * 1 = lo := by simp
    have e2 : (((hi - lo).toNat : Nat) : Int) - ((0 : Nat) : Int) = Builtin.Range.rangeSize lo hi 1 := by rw [rangeSize_one]; split <;> omega
    show IsRangeIter _ _ (lo + ((0 : Nat) : Int) * 1) ((((hi - lo).toNat : Nat) : Int) - ((0 : Nat) : Int)) 1
    rw [e1, e2]
    exact Heap.get?_push_size _ rfl
  · have e : b = (s.heap.push { cls := .type "range", data := .fields #[.int lo t, .int hi u, .int 1 v] }).objs.size := by simpa using hb
    subst e
    exact I1.fpOk (Nat.le_refl _) (I1.hok.fresh (Nat.le_refl _))
def iRng1 (ta : TA) : TI := fun σ H R => ta σ H fun vs H1 => ∃ j : Int, vs = [.int j] ∧ -(2 ^ 62) ≤ j ∧ j < 2 ^ 62 ∧ R (Itr 0 j.toNat) H1
def iRng2 (ta : TA) : TI := fun σ H R => ta σ H fun vs H1 => ∃ i j : Int, vs = [.int i, .int j] ∧ (-(2 ^ 62) ≤ i ∧ i < 2 ^ 62 ∧ -(2 ^ 62) ≤ j ∧ j < 2 ^ 62) ∧ R (Itr i (j - i).toNat) H1
theorem pi_range1 {a : Expr} {ta : TA} {p pos : Pos} (hg : Gl X "range") (hm : X.mg "range" = none) (ha : PA X [a] ta) (hs : starEach [a] X.env = [(false, eval a X.env)] := by rfl) : PI X tg (.Call (.Name "range" p) [a] [] pos) (iRng1 ta) := by
  intro pins s σ H R I h
  refine Call_ (ld_blt I hg hm boot_range (PyProof.Rows.callWith_type1 (thn (ha pos pins s σ H _ I h) fun us s1 hz0 => ?_) hs rfl))
  obtain ⟨vs, H1, I1, r1, q1⟩ := hz0
  obtain ⟨j, e, q1, q2, q⟩ := q1
  subst e
  cases r1 with
  | cons r rr =>
    cases rr
    obtain ⟨t, rfl⟩ := r
    exact call_range_1 (range_it I1 (by omega) (by omega) q1 q2 (by simpa using q))
theorem pi_range2 {a b : Expr} {ta : TA} {p pos : Pos} (hg : Gl X "range") (hm : X.mg "range" = none) (ha : PA X [a, b] ta) (hs : starEach [a, b] X.env = [(false, eval a X.env), (false, eval b X.env)] := by rfl) (hs2 : starEach [b] X.env = [(false, eval b X.env)] := by rfl) :
    PI X tg (.Call (.Name "range" p) [a, b] [] pos) (iRng2 ta) := by
  intro pins s σ H R I h
  refine Call_ (ld_blt I hg hm boot_range (PyProof.Rows.callWith_type1 (thn (ha pos pins s σ H _ I h) fun us s1 hz0 => ?_) (by rw [hs, hs2]) (by rw [hs2]; rfl)))
  obtain ⟨vs, H1, I1, r1, q1⟩ := hz0
  obtain ⟨i, j, e, ⟨q1, q2, q3, q4⟩, q⟩ := q1
  subst e
  cases r1 with
  | cons r rr =>
    cases rr with
    | cons r' rr =>
      cases rr
      obtain ⟨t, rfl⟩ := r
      obtain ⟨t', rfl⟩ := r'
      exact call_range_2 (range_it I1 q1 q2 q3 q4 q)

/-! ### for -/
/-- W: the invariant by the turn and a measure; N: what the body is to reach -/
def tFor (wi : TI) (g : TG) (tb : TS) : TS := fun D σ H => wi σ H fun J H1 => ∃ W : Nat → Nat → St → Hp → Prop, (∃ m, W 0 m σ H1) ∧ ∀ i m σ H, W i m σ H →
  (J.stop i H ∧ D.nx σ H) ∨ (J.go i H ∧ ∃ N : St → Hp → Prop, (∀ σ' H', N σ' H' → ∃ m', m' < m ∧ W (i + 1) m' σ' H') ∧ ∀ x H', J.yld i H x H' → g x σ H' fun σ2 H2 => tb { D with nx := N, ct := N, bk := D.nx } σ2 H2)
/-- the records at fp as they stand -/
def pinsAt (fp : List Addr) (h : Heap) : List (Addr × Obj) := fp.filterMap fun b => (h.get? b).map fun o => (b, o)
theorem mem_pinsAt {fp : List Addr} {h : Heap} {b : Addr} {o : Obj} (hb : b ∈ fp) (e : h.get? b = some o) : (b, o) ∈ pinsAt fp h := List.mem_filterMap.mpr ⟨b, hb, by rw [e]; rfl⟩
theorem of_pinsAt {fp : List Addr} {h : Heap} {p : Addr × Obj} (hp : p ∈ pinsAt fp h) : p.1 ∈ fp ∧ h.get? p.1 = some p.2 := by
  obtain ⟨b, hb, e⟩ := List.mem_filterMap.mp hp
  cases q : h.get? b with
  | none => rw [q] at e; cases e
  | some o =>
    rw [q] at e
    have e' : (b, o) = p := Option.some.inj e
    subst e'
    exact ⟨hb, q⟩
theorem Inv.pinned {pins : List (Addr × Obj)} {σ : St} {H : Hp} {s : Shared} {fp : List Addr} (I : Inv X pins σ H s) (hf : ∀ b ∈ fp, FpOk X pins H b) (ho : ∀ b ∈ fp, ∃ o, s.heap.get? b = some o ∧ ∀ v, o.data ≠ .cell v) : Inv X (pins ++ pinsAt fp s.heap) σ H s :=
  I.pins_of fun p hp => (List.mem_append.mp hp).elim (fun z => I.pin p (List.mem_append_right _ z)) fun z => by
    obtain ⟨hb, e⟩ := of_pinsAt z
    obtain ⟨f0, f1, f2, _⟩ := hf p.1 hb
    obtain ⟨o, e', d⟩ := ho p.1 hb
    rw [e] at e'; cases e'
    exact ⟨e, f0, f1, f2, d⟩
theorem Inv.unpinned {pins pl : List (Addr × Obj)} {σ : St} {H : Hp} {s : Shared} (I : Inv X (pins ++ pl) σ H s) : Inv X pins σ H s := I.pins_of fun p hp => I.pin p (List.mem_append_right _ (List.mem_append_left _ hp))
theorem ps_for {iter : Expr} {body : List Stmt} {wi : TI} {g : TG} {tb : TS} {pos : Pos} (hp : PassesOwn (model X.prog X.w) X.A X.env X.xe) (hc : X.calm = true) (hi : PI X tg iter wi) (hg : PG X tg g) (hb : PSs X body tb)
    (hs : ∀ x, foldedSetIterable iter X.env x = pure x := by intro _; rfl) : PS X (.For tg iter body [] pos) (tFor wi g tb) := by
  intro pins s σ H D I h
  refine wpAny_For (thn (hi pins s σ H _ I h) fun v s1 h1 => thn h1 fun itv s2 h2 => ?_) hs
  obtain ⟨it, fp, tn, J, H2, e, I2, T, st2, f2, W, ⟨m0, w0⟩, turn⟩ := h2
  subst e
  -- what stays true of the iterator's objects through the loop
  have stat : ∀ {H' : Hp}, (∀ b ∈ fp, H' b = none) → ∀ b ∈ fp, FpOk X pins H' b := fun hn b hb => ⟨hn b hb, (f2 b hb).2⟩
  refine codeAny_forLoop_any (fun n s' => ∃ i σ' H', Inv X pins σ' H' s' ∧ tn i s'.heap ∧ (∀ b ∈ fp, H' b = none) ∧ W i n σ' H') ?_ m0 ⟨0, σ, H2, I2, st2, fun b hb => (f2 b hb).1, w0⟩
  rintro n s3 ⟨i, σ3, H3, I3, st3, fr3, w3⟩
  rcases turn i n σ3 H3 w3 with ⟨stop, qn⟩ | ⟨go, N, hN, step⟩
  · refine wpAny_passesOwn hp (thn (T.done X rfl rfl rfl hc i pins s3 σ3 H3 X.xe I3 (stat fr3) st3 stop) fun r s4 hz0 => ?_)
    obtain ⟨hr, I4⟩ := hz0
    subst hr
    exact wpAny_execs_nil ⟨σ3, H3, I4, qn⟩
  · refine wpAny_passesOwn hp (thn (T.item X rfl rfl rfl hc i pins s3 σ3 H3 X.xe I3 (stat fr3) st3 go) fun r s4 hz0 => ?_)
    obtain ⟨u, hr, h4⟩ := hz0
    subst hr
    refine wpAny_passesOwn hp (thn h4 fun _ s5 hz0 => ?_)
    obtain ⟨x, H5, I5, r5, y5, st5, fr5⟩ := hz0
    have I5' := I5.pinned (stat fr5) (T.obj _ _ st5)
    refine wpAny_passesOwn hp (thn (hg _ s5 σ3 H5 x u _ I5' r5 (step x H5 y5)) fun _ s6 hz0 => ?_)
    obtain ⟨σ6, H6, I6, q6⟩ := hz0
    refine wpAny_passesOwn hp (thn (hb _ s6 σ6 H6 _ I6 q6) fun f s7 q7 => ?_)
    have again : ∀ {σ7 : St} {H7 : Hp}, Inv X (pins ++ pinsAt fp s5.heap) σ7 H7 s7 → N σ7 H7 → ∃ m, m < n ∧ ∃ i σ' H', Inv X pins σ' H' s7 ∧ tn i s7.heap ∧ (∀ b ∈ fp, H' b = none) ∧ W i m σ' H' := fun {σ7 H7} I7 n7 => by
      obtain ⟨m', hm, w7⟩ := hN σ7 H7 n7
      refine ⟨m', hm, i + 1, σ7, H7, I7.unpinned, T.keep _ _ _ st5 fun b hb o e => (I7.pin (b, o) (List.mem_append_right _ (List.mem_append_right _ (mem_pinsAt hb e)))).1, fun b hb => ?_, w7⟩
      obtain ⟨o, e, d⟩ := T.obj _ _ st5 b hb
      exact (I7.pin (b, o) (List.mem_append_right _ (List.mem_append_right _ (mem_pinsAt hb e)))).2.1
    cases f with
    | next => obtain ⟨σ7, H7, I7, n7⟩ := q7; exact again I7 n7
    | cont => obtain ⟨σ7, H7, I7, n7⟩ := q7; exact again I7 n7
    | brk => obtain ⟨σ7, H7, I7, q7⟩ := q7; exact ⟨σ7, H7, I7.unpinned, q7⟩
    | ret v => obtain ⟨x7, σ7, H7, I7, r7, q7⟩ := q7; exact ⟨x7, σ7, H7, I7.unpinned, r7, q7⟩
end

/-! ### the forms one uses -/
/-- over a list that the body leaves as it is -/
theorem for_list {K : PySem.W.Frag} {a : Addr} {xs : List V} {g : TG} {tb : TS} {D : Ends} {σ : St} {H : Hp} (Pv : Nat → St → Hp → Prop) (h0 : Pv 0 σ H) (hl : ∀ i σ H, i ≤ xs.length → Pv i σ H → SqL K H a xs)
    (hs : ∀ i x σ H, xs[i]? = some x → Pv i σ H → g x σ H fun σ2 H2 => tb { D with nx := Pv (i + 1), ct := Pv (i + 1), bk := D.nx } σ2 H2) (hd : ∀ σ H, Pv xs.length σ H → D.nx σ H) :
    ∃ W : Nat → Nat → St → Hp → Prop, (∃ m, W 0 m σ H) ∧ ∀ i m σ H, W i m σ H →
      ((Itl K a).stop i H ∧ D.nx σ H) ∨ ((Itl K a).go i H ∧ ∃ N : St → Hp → Prop, (∀ σ' H', N σ' H' → ∃ m', m' < m ∧ W (i + 1) m' σ' H') ∧ ∀ x H', (Itl K a).yld i H x H' → g x σ H' fun σ2 H2 => tb { D with nx := N, ct := N, bk := D.nx } σ2 H2) := by
  refine ⟨fun i m σ H => m = xs.length - i ∧ i ≤ xs.length ∧ Pv i σ H, ⟨xs.length, by simp, Nat.zero_le _, h0⟩, ?_⟩
  rintro i m σ H ⟨rfl, hi, p⟩
  have q := hl i σ H hi p
  by_cases hlt : i < xs.length
  · refine .inr ⟨⟨xs, xs[i], q, by simp [hlt]⟩, Pv (i + 1), fun σ' H' p' => ⟨xs.length - (i + 1), by omega, rfl, hlt, p'⟩, fun x H' y => ?_⟩
    obtain ⟨e, y⟩ := y
    subst e
    exact hs i x σ _ (y xs q) p
  · have e : i = xs.length := by omega
    subst e
    exact .inl ⟨⟨xs, q, Nat.le_refl _⟩, hd σ H p⟩
theorem for_tup {K : PySem.W.Frag} {a : Addr} {xs : List V} {g : TG} {tb : TS} {D : Ends} {σ : St} {H : Hp} (Pv : Nat → St → Hp → Prop) (h0 : Pv 0 σ H) (hl : ∀ i σ H, i ≤ xs.length → Pv i σ H → SqT K H a xs)
    (hs : ∀ i x σ H, xs[i]? = some x → Pv i σ H → g x σ H fun σ2 H2 => tb { D with nx := Pv (i + 1), ct := Pv (i + 1), bk := D.nx } σ2 H2) (hd : ∀ σ H, Pv xs.length σ H → D.nx σ H) :
    ∃ W : Nat → Nat → St → Hp → Prop, (∃ m, W 0 m σ H) ∧ ∀ i m σ H, W i m σ H →
      ((Itt K a).stop i H ∧ D.nx σ H) ∨ ((Itt K a).go i H ∧ ∃ N : St → Hp → Prop, (∀ σ' H', N σ' H' → ∃ m', m' < m ∧ W (i + 1) m' σ' H') ∧ ∀ x H', (Itt K a).yld i H x H' → g x σ H' fun σ2 H2 => tb { D with nx := N, ct := N, bk := D.nx } σ2 H2) := by
  refine ⟨fun i m σ H => m = xs.length - i ∧ i ≤ xs.length ∧ Pv i σ H, ⟨xs.length, by simp, Nat.zero_le _, h0⟩, ?_⟩
  rintro i m σ H ⟨rfl, hi, p⟩
  have q := hl i σ H hi p
  by_cases hlt : i < xs.length
  · refine .inr ⟨⟨xs, xs[i], q, by simp [hlt]⟩, Pv (i + 1), fun σ' H' p' => ⟨xs.length - (i + 1), by omega, rfl, hlt, p'⟩, fun x H' y => ?_⟩
    obtain ⟨e, y⟩ := y
    subst e
    exact hs i x σ _ (y xs q) p
  · have e : i = xs.length := by omega
    subst e
    exact .inl ⟨⟨xs, q, Nat.le_refl _⟩, hd σ H p⟩
theorem for_range {lo : Int} {n : Nat} {g : TG} {tb : TS} {D : Ends} {σ : St} {H : Hp} (Pv : Nat → St → Hp → Prop) (h0 : Pv 0 σ H)
    (hs : ∀ i σ H, i < n → Pv i σ H → g (.int (lo + i)) σ H fun σ2 H2 => tb { D with nx := Pv (i + 1), ct := Pv (i + 1), bk := D.nx } σ2 H2) (hd : ∀ σ H, Pv n σ H → D.nx σ H) :
    ∃ W : Nat → Nat → St → Hp → Prop, (∃ m, W 0 m σ H) ∧ ∀ i m σ H, W i m σ H →
      ((Itr lo n).stop i H ∧ D.nx σ H) ∨ ((Itr lo n).go i H ∧ ∃ N : St → Hp → Prop, (∀ σ' H', N σ' H' → ∃ m', m' < m ∧ W (i + 1) m' σ' H') ∧ ∀ x H', (Itr lo n).yld i H x H' → g x σ H' fun σ2 H2 => tb { D with nx := N, ct := N, bk := D.nx } σ2 H2) := by
  refine ⟨fun i m σ H => m = n - i ∧ i ≤ n ∧ Pv i σ H, ⟨n, by simp, Nat.zero_le _, h0⟩, ?_⟩
  rintro i m σ H ⟨rfl, hi, p⟩
  by_cases hlt : i < n
  · refine .inr ⟨hlt, Pv (i + 1), fun σ' H' p' => ⟨n - (i + 1), by omega, rfl, hlt, p'⟩, fun x H' y => ?_⟩
    obtain ⟨e, y⟩ := y
    subst e y
    exact hs i σ _ hlt p
  · have e : i = n := by omega
    subst e
    exact .inl ⟨Nat.le_refl _, hd σ H p⟩
end L2

namespace L2
open PySem PySem.Spec PyProof.Rows

abbrev R2 := V → V → Hp → VK → Prop
/-- a two-place operation on values: f is binaryOp op, inplaceOp op or compareOp op -/
def OpR (X : Cx) (f : Value → Value → Sem Value) (r : R2) : Prop :=
  ∀ (pins : List (Addr × Obj)) (s : Shared) (σ : St) (H : Hp) (x y : V) (v u : Value) (Q : VK), Inv X pins σ H s → RelV x v → RelV y u → r x y H Q →
    wpAny (model X.prog X.w) X.A (f v u) (EP X pins σ Q) X.xe s
/-- a one-place operation -/
def UnR (X : Cx) (f : Value → Sem Value) (r : V → Hp → VK → Prop) : Prop :=
  ∀ (pins : List (Addr × Obj)) (s : Shared) (σ : St) (H : Hp) (x : V) (v : Value) (Q : VK), Inv X pins σ H s → RelV x v → r x H Q →
    wpAny (model X.prog X.w) X.A (f v) (EP X pins σ Q) X.xe s
/-- a call of a value that is known (a builtin, a type) with values -/
def CallR (X : Cx) (f : Value) (r : List V → Hp → VK → Prop) : Prop :=
  ∀ (pins : List (Addr × Obj)) (s : Shared) (σ : St) (H : Hp) (xs : List V) (us : List Value) (Q : VK), Inv X pins σ H s → Vals xs us → r xs H Q →
    wpAny (model X.prog X.w) X.A (call f us) (EP X pins σ Q) X.xe s
def tOp (r : R2) (ta tb : TE) : TE := fun σ H Q => ta σ H fun x H1 => tb σ H1 fun y H2 => r x y H2 Q
def tUn (r : V → Hp → VK → Prop) (ta : TE) : TE := fun σ H Q => ta σ H fun x H1 => r x H1 Q
/-- ints in, under C, and a value out -/
def rI (C : Int → Int → Prop) (g : Int → Int → V) : R2 := fun x y H Q => match x, y with | .int i, .int j => C i j ∧ Q (g i j) H | _, _ => False
def rI0 (g : Int → Int → V) : R2 := fun x y H Q => match x, y with | .int i, .int j => Q (g i j) H | _, _ => False
theorem rI_of {C : Int → Int → Prop} {g : Int → Int → V} {x y : V} {H : Hp} {Q : VK} (h : rI C g x y H Q) : ∃ i j, x = .int i ∧ y = .int j ∧ C i j ∧ Q (g i j) H := by
  cases x <;> cases y <;> first | exact h.elim | exact ⟨_, _, rfl, rfl, h⟩
theorem rI0_of {g : Int → Int → V} {x y : V} {H : Hp} {Q : VK} (h : rI0 g x y H Q) : ∃ i j, x = .int i ∧ y = .int j ∧ Q (g i j) H := by
  cases x <;> cases y <;> first | exact h.elim | exact ⟨_, _, rfl, rfl, h⟩
def rU (g : Int → V) : V → Hp → VK → Prop := fun x H Q => ∃ i, x = .int i ∧ Q (g i) H

section
variable {X : Cx} {a b c : Expr} {ta tb tc : TE} {pos : Pos}

theorem binT (ha : PE X a ta) (hb : PE X b tb) {pins : List (Addr × Obj)} {s : Shared} {σ : St} {H : Hp} {R : V → V → Hp → Prop} (I : Inv X pins σ H s)
    (h : ta σ H fun x H1 => tb σ H1 fun y H2 => R x y H2) {Q : Value → Shared → Prop} {f : Value → Value → Sem Value}
    (hf : ∀ v u s2 x y H2, Inv X pins σ H2 s2 → RelV x v → RelV y u → R x y H2 → wpAny (model X.prog X.w) X.A (f v u) Q X.xe s2) :
    wpAny (model X.prog X.w) X.A (eval a X.env) (fun v s₁ => wpAny (model X.prog X.w) X.A (eval b X.env) (fun u s₂ => wpAny (model X.prog X.w) X.A (f v u) Q X.xe s₂) X.xe s₁) X.xe s := by
  refine thn (ha pins s σ H _ I h) fun v s1 hz0 => ?_
  obtain ⟨x, H1, I1, r1, q1⟩ := hz0
  refine thn (hb pins s1 σ H1 _ I1 q1) fun u s2 hz0 => ?_
  obtain ⟨y, H2, I2, r2, q2⟩ := hz0
  exact hf v u s2 x y H2 I2 r1 r2 q2

theorem pe_op {op : Operator} {r : R2} (ho : OpR X (binaryOp op) r) (ha : PE X a ta) (hb : PE X b tb) : PE X (.BinOp a op b pos) (tOp r ta tb) := by
  intro pins s σ H Q I h
  exact wpAny_BinOp (binT ha hb I h fun v u s2 x y H2 I2 rx ry q => ho pins s2 σ H2 x y v u Q I2 rx ry q)
theorem pe_un {op : UnaryOp} {r : V → Hp → VK → Prop} (ho : UnR X (unaryOp op) r) (ha : PE X a ta) : PE X (.UnaryOp op a pos) (tUn r ta) := by
  intro pins s σ H Q I h
  exact UnaryOp_ (thn (ha pins s σ H _ I h) fun v s1 ⟨x, H1, I1, r1, q1⟩ => ho pins s1 σ H1 x v Q I1 r1 q1)
/-! ### ints -/
theorem opI {f : Value → Value → Sem Value} {C : Int → Int → Prop} {g : Int → Int → Int}
    (rule : ∀ (i j : Int) (t u : Tok) (s : Shared) (Q : Value → Shared → Prop) (E : Value → Shared → Prop), C i j → Q (.int (g i j) s.toks) { s with toks := s.toks + 1 } → wpAny (model X.prog X.w) X.A (f (.int i t) (.int j u)) Q E s) :
    OpR X f (rI C fun i j => .int (g i j)) := by
  intro pins s σ H x y v u Q I rx ry h
  obtain ⟨i, j, rfl, rfl, hc, q⟩ := rI_of h
  obtain ⟨t, rfl⟩ := rx
  obtain ⟨t', rfl⟩ := ry
  exact rule i j t t' s _ _ hc ⟨.int (g i j), H, I.tok _, ⟨_, rfl⟩, q⟩
theorem opI0 {f : Value → Value → Sem Value} {g : Int → Int → Int}
    (rule : ∀ (i j : Int) (t u : Tok) (s : Shared) (Q : Value → Shared → Prop) (E : Value → Shared → Prop), Q (.int (g i j) s.toks) { s with toks := s.toks + 1 } → wpAny (model X.prog X.w) X.A (f (.int i t) (.int j u)) Q E s) :
    OpR X f (rI0 fun i j => .int (g i j)) := by
  intro pins s σ H x y v u Q I rx ry h
  obtain ⟨i, j, rfl, rfl, q⟩ := rI0_of h
  obtain ⟨t, rfl⟩ := rx
  obtain ⟨t', rfl⟩ := ry
  exact rule i j t t' s _ _ ⟨.int (g i j), H, I.tok _, ⟨_, rfl⟩, q⟩
theorem opB0 {f : Value → Value → Sem Value} {g : Int → Int → Bool}
    (rule : ∀ (i j : Int) (t u : Tok) (s : Shared) (Q : Value → Shared → Prop) (E : Value → Shared → Prop), Q (.bool (g i j)) s → wpAny (model X.prog X.w) X.A (f (.int i t) (.int j u)) Q E s) :
    OpR X f (rI0 fun i j => .bl (g i j)) := by
  intro pins s σ H x y v u Q I rx ry h
  obtain ⟨i, j, rfl, rfl, q⟩ := rI0_of h
  obtain ⟨t, rfl⟩ := rx
  obtain ⟨t', rfl⟩ := ry
  exact rule i j t t' s _ _ ⟨.bl (g i j), H, I, rfl, q⟩

def CDiv (i j : Int) : Prop := 0 < j ∧ j < 1073741824
def CPow (i j : Int) : Prop := 0 ≤ j ∧ j ≤ 1000000 ∧ i.natAbs < 2 ^ 64
def CMul (i j : Int) : Prop := (-(2 ^ 64) < i ∧ i < 2 ^ 64) ∨ (-(2 ^ 64) < j ∧ j < 2 ^ 64)
theorem CMul.ok {i j : Int} (h : CMul i j) : IntMulOk i j := by
  rcases h with ⟨h1, h2⟩ | ⟨h1, h2⟩
  · exact .of_left (intBits_le_64 h1 h2)
  · exact .of_right (intBits_le_64 h1 h2)
theorem op_add : OpR X (binaryOp .Add) (rI0 fun i j => .int (i + j)) := opI0 fun _ _ _ _ _ _ _ q => add_int q
theorem op_sub : OpR X (binaryOp .Sub) (rI0 fun i j => .int (i - j)) := opI0 fun _ _ _ _ _ _ _ q => sub_int q
theorem op_mul : OpR X (binaryOp .Mult) (rI CMul fun i j => .int (i * j)) := opI fun _ _ _ _ _ _ _ hc q => mul_int q hc.ok
/-- // by a positive divisor -/
theorem op_fdiv : OpR X (binaryOp .FloorDiv) (rI CDiv fun i j => .int (i / j)) := opI fun i j _ _ _ _ _ hc q => by
  have h1 : (0 : Int) < j := hc.1
  have h2 : j < 1073741824 := hc.2
  exact floordiv_int (by omega) (by rw [Int.fdiv_eq_ediv_of_nonneg i (by omega)]; exact q) (.inl (PyProof.noPylong_small (by omega)))
/-- % by a positive divisor of any size -/
theorem op_mod : OpR X (binaryOp .Mod) (rI (fun _ j => 0 < j) fun i j => .int (i % j)) := opI fun i j _ _ _ _ _ hc q => by
  have h1 : (0 : Int) < j := hc
  exact mod_int' (by omega) (by rw [Int.fmod_eq_emod_of_nonneg i (by omega)]; exact q)
theorem op_pow : OpR X (binaryOp .Pow) (rI CPow fun i j => .int (i ^ j.toNat)) := opI fun _ _ _ _ _ _ _ hc q => pow_int_small hc.1 hc.2.1 hc.2.2 q
theorem unI {f : Value → Sem Value} {g : Int → Int}
    (rule : ∀ (i : Int) (t : Tok) (s : Shared) (Q : Value → Shared → Prop) (E : Value → Shared → Prop), Q (.int (g i) s.toks) { s with toks := s.toks + 1 } → wpAny (model X.prog X.w) X.A (f (.int i t)) Q E s) :
    UnR X f (rU fun i => .int (g i)) := by
  intro pins s σ H x v Q I rx h
  obtain ⟨i, rfl, q⟩ := h
  obtain ⟨t, rfl⟩ := rx
  exact rule i t s _ _ ⟨.int (g i), H, I.tok _, ⟨_, rfl⟩, q⟩
theorem un_neg : UnR X (unaryOp .USub) (rU fun i => .int (-i)) := unI fun _ _ _ _ _ q => neg_int q
/-! ### bools among ints: n += (a < b) -/
end

/-! ### comparisons -/
/-- the scalars that == tells apart as data does -/
def scal : V → V → Bool
  | .non, .non => true | .non, .int _ => true | .int _, .non => true | .non, .bl _ => true | .bl _, .non => true | .non, .str _ => true | .str _, .non => true
  | .int _, .int _ => true | .bl _, .bl _ => true | .str _, .str _ => true | .byt _, .byt _ => true
  | .int _, .str _ => true | .str _, .int _ => true | .bl _, .str _ => true | .str _, .bl _ => true
  | _, _ => false
def rEq : R2 := fun x y H Q => scal x y = true ∧ Q (.bl (decide (x = y))) H
def rNe : R2 := fun x y H Q => scal x y = true ∧ Q (.bl (!decide (x = y))) H

theorem dec_int {i j : Int} : decide (V.int i = V.int j) = (i == j) := by
  rw [Bool.eq_iff_iff]
  simp
theorem dec_bl {i j : Bool} : decide (V.bl i = V.bl j) = (i == j) := by
  rw [Bool.eq_iff_iff]
  simp
theorem dec_str {i j : Str} : decide (V.str i = V.str j) = (i == j) := by
  rw [Bool.eq_iff_iff]
  simp
theorem dec_byt {i j : Array UInt8} : decide (V.byt i = V.byt j) = (i.toList == j.toList) := by
  rw [Bool.eq_iff_iff]
  cases i
  cases j
  simp

section
variable {X : Cx} {a b c : Expr} {ta tb tc : TE} {pos : Pos}
theorem fin_bl {pins : List (Addr × Obj)} {σ : St} {H : Hp} {s : Shared} {Q : VK} {k k' : Bool} (I : Inv X pins σ H s) (q : Q (.bl k) H) (e : k = k') : EP X pins σ Q (.bool k') s := by
  subst e
  exact ⟨.bl k, H, I, rfl, q⟩
theorem op_eq : OpR X (compareOp .Eq) rEq := by
  intro pins s σ H x y v u Q I rx ry h
  obtain ⟨hs, q⟩ := h
  cases x with
  | non =>
    cases rx
    cases y with
    | non => cases ry; exact PySem.EqNone.eq_none_none (fin_bl I q (by simp))
    | bl j => cases ry; exact PySem.EqNone.eq_none_bool (fin_bl I q (by simp))
    | int j => obtain ⟨t', rfl⟩ := ry; exact PySem.EqNone.eq_none_int (fin_bl I q (by simp))
    | str j => obtain ⟨t', rfl⟩ := ry; exact PySem.EqNone.eq_none_str (fin_bl I q (by simp))
    | _ => exact absurd (show false = true from hs) Bool.false_ne_true
  | bl i =>
    cases rx
    cases y with
    | non => cases ry; exact PySem.EqNone.eq_bool_none (fin_bl I q (by simp))
    | bl j => cases ry; exact eq_bool (fin_bl I q dec_bl)
    | str j => obtain ⟨t', rfl⟩ := ry; exact PySem.EqMixed.eq_bool_str (fin_bl I q (by simp))
    | _ => exact absurd (show false = true from hs) Bool.false_ne_true
  | int i =>
    obtain ⟨t, rfl⟩ := rx
    cases y with
    | non => cases ry; exact PySem.EqNone.eq_int_none (fin_bl I q (by simp))
    | int j => obtain ⟨t', rfl⟩ := ry; exact eq_int (fin_bl I q dec_int)
    | str j => obtain ⟨t', rfl⟩ := ry; exact PySem.EqMixed.eq_int_str (fin_bl I q (by simp))
    | _ => exact absurd (show false = true from hs) Bool.false_ne_true
  | str i =>
    obtain ⟨t, rfl⟩ := rx
    cases y with
    | non => cases ry; exact PySem.EqNone.eq_str_none (fin_bl I q (by simp))
    | bl j => cases ry; exact PySem.EqMixed.eq_str_bool (fin_bl I q (by simp))
    | int j => obtain ⟨t', rfl⟩ := ry; exact PySem.EqMixed.eq_str_int (fin_bl I q (by simp))
    | str j => obtain ⟨t', rfl⟩ := ry; exact eq_str (fin_bl I q dec_str)
    | _ => exact absurd (show false = true from hs) Bool.false_ne_true
  | byt i =>
    obtain ⟨t, rfl⟩ := rx
    cases y with
    | byt j => obtain ⟨t', rfl⟩ := ry; exact PySem.W.eq_bytes (fin_bl I q dec_byt)
    | _ => exact absurd (show false = true from hs) Bool.false_ne_true
  | _ => cases y <;> exact absurd (show false = true from hs) Bool.false_ne_true
theorem op_ne : OpR X (compareOp .NotEq) rNe := by
  intro pins s σ H x y v u Q I rx ry h
  obtain ⟨hs, q⟩ := h
  cases x with
  | non =>
    cases rx
    cases y with
    | non => cases ry; exact PySem.EqNone.ne_none_none (fin_bl I q (by simp))
    | bl j => cases ry; exact PySem.EqNone.ne_none_bool (fin_bl I q (by simp))
    | int j => obtain ⟨t', rfl⟩ := ry; exact PySem.EqNone.ne_none_int (fin_bl I q (by simp))
    | str j => obtain ⟨t', rfl⟩ := ry; exact PySem.EqNone.ne_none_str (fin_bl I q (by simp))
    | _ => exact absurd (show false = true from hs) Bool.false_ne_true
  | bl i =>
    cases rx
    cases y with
    | non => cases ry; exact PySem.EqNone.ne_bool_none (fin_bl I q (by simp))
    | bl j => cases ry; exact ne_bool (fin_bl I q (congrArg not dec_bl))
    | str j => obtain ⟨t', rfl⟩ := ry; exact PySem.EqMixed.ne_bool_str (fin_bl I q (by simp))
    | _ => exact absurd (show false = true from hs) Bool.false_ne_true
  | int i =>
    obtain ⟨t, rfl⟩ := rx
    cases y with
    | non => cases ry; exact PySem.EqNone.ne_int_none (fin_bl I q (by simp))
    | int j => obtain ⟨t', rfl⟩ := ry; exact ne_int (fin_bl I q (congrArg not dec_int))
    | str j => obtain ⟨t', rfl⟩ := ry; exact PySem.EqMixed.ne_int_str (fin_bl I q (by simp))
    | _ => exact absurd (show false = true from hs) Bool.false_ne_true
  | str i =>
    obtain ⟨t, rfl⟩ := rx
    cases y with
    | non => cases ry; exact PySem.EqNone.ne_str_none (fin_bl I q (by simp))
    | bl j => cases ry; exact PySem.EqMixed.ne_str_bool (fin_bl I q (by simp))
    | int j => obtain ⟨t', rfl⟩ := ry; exact PySem.EqMixed.ne_str_int (fin_bl I q (by simp))
    | str j => obtain ⟨t', rfl⟩ := ry; exact ne_str (fin_bl I q (congrArg not dec_str))
    | _ => exact absurd (show false = true from hs) Bool.false_ne_true
  | byt i =>
    obtain ⟨t, rfl⟩ := rx
    cases y with
    | byt j => obtain ⟨t', rfl⟩ := ry; exact PySem.W.ne_bytes (fin_bl I q (congrArg not dec_byt))
    | _ => exact absurd (show false = true from hs) Bool.false_ne_true
  | _ => cases y <;> exact absurd (show false = true from hs) Bool.false_ne_true

theorem op_lt : OpR X (compareOp .Lt) (rI0 fun i j => .bl (decide (i < j))) := opB0 fun _ _ _ _ _ _ _ q => lt_int q
theorem op_le : OpR X (compareOp .LtE) (rI0 fun i j => .bl (decide (i ≤ j))) := opB0 fun _ _ _ _ _ _ _ q => le_int q
theorem op_gt : OpR X (compareOp .Gt) (rI0 fun i j => .bl (decide (j < i))) := opB0 fun _ _ _ _ _ _ _ q => gt_int q
theorem op_ge : OpR X (compareOp .GtE) (rI0 fun i j => .bl (decide (j ≤ i))) := opB0 fun _ _ _ _ _ _ _ q => ge_int q
theorem op_notN : OpR X (compareOp .IsNot) (fun x y H Q => y = .non ∧ Q (.bl (!decide (x = .non))) H) := by
  intro pins s σ H x y v u Q I rx ry h
  obtain ⟨rfl, q⟩ := h
  cases ry
  refine isnot_none_gen (fin_bl I q ?_)
  cases x <;> first
    | (cases rx; rfl)
    | (obtain ⟨t, rfl⟩ := rx; rfl)

theorem nomark (b : Expr) {op : CmpOp} (h : op ≠ .In := by decide) (h2 : op ≠ .NotIn := by decide) : behindInMarks op b = false := by
  have e1 : (op == CmpOp.In) = false := by cases op <;> first | rfl | exact absurd rfl h
  have e2 : (op == CmpOp.NotIn) = false := by cases op <;> first | rfl | exact absurd rfl h2
  cases b <;> simp [behindInMarks, e1, e2]
/-- a comparison as a value; hm: nomark b, or (for in, not in) by with_unfolding_all rfl -/
theorem pe_cmpR {op : CmpOp} {r : R2} (ho : OpR X (compareOp op) r) (ha : PE X a ta) (hb : PE X b tb) (hm : behindInMarks op b = false) : PE X (.Compare a [op] [b] pos) (tOp r ta tb) := by
  intro pins s σ H Q I h
  exact wpAny_Compare1 (binT ha hb I h fun v u s2 x y H2 I2 rx ry q => ho pins s2 σ H2 x y v u Q I2 rx ry q) hm
/-- a reading of a value as a test -/
def tTest (t : TE) : TT := fun σ H Q => t σ H fun x H' => ∃ k, x = .bl k ∧ Q k H'
theorem pt_cmpR {op : CmpOp} {r : R2} (ho : OpR X (compareOp op) r) (ha : PE X a ta) (hb : PE X b tb) (hm : behindInMarks op b = false) : PT X (.Compare a [op] [b] pos) (tTest (tOp r ta tb)) := by
  intro pins s σ H Q I h
  refine wpAny_isTrue_Compare1 (thn (ha pins s σ H _ I h) fun v s1 ⟨x, H1, I1, r1, q1⟩ => thn (hb pins s1 σ H1 _ I1 q1) fun u s2 ⟨y, H2, I2, r2, q2⟩ =>
    thn (ho pins s2 σ H2 x y v u _ I2 r1 r2 q2) fun c s3 ⟨z, H3, I3, r3, k, e, q3⟩ => ?_) hm
  subst e
  cases r3
  exact wpAny_truthy_bool ⟨H3, I3, q3⟩
/-- a op1 b op2 c -/
def tChain (r r' : R2) (ta tb tc : TE) : TE := fun σ H Q => ta σ H fun x H1 => tb σ H1 fun y H2 => r x y H2 fun z H3 => ∃ k, z = .bl k ∧
  (if k = true then tc σ H3 fun w' H4 => r' y w' H4 Q else Q (.bl false) H3)
theorem pe_chain {op op' : CmpOp} {r r' : R2} (ho : OpR X (compareOp op) r) (ho' : OpR X (compareOp op') r') (ha : PE X a ta) (hb : PE X b tb) (hc : PE X c tc)
    (hm : lastMarks [op, op'] [b, c] = false := by with_unfolding_all rfl) : PE X (.Compare a [op, op'] [b, c] pos) (tChain r r' ta tb tc) := by
  intro pins s σ H Q I h
  refine Compare_chain (thn (ha pins s σ H _ I h) fun v s1 ⟨x, H1, I1, r1, q1⟩ => chain_link (thn (hb pins s1 σ H1 _ I1 q1) fun u s2 ⟨y, H2, I2, r2, q2⟩ =>
    thn (ho pins s2 σ H2 x y v u _ I2 r1 r2 q2) fun d s3 ⟨z, H3, I3, r3, k, e, q3⟩ => ?_)) hm
  subst e
  cases r3
  refine wpAny_truthy_bool ?_
  cases k with
  | false => exact ite_ff ⟨.bl false, H3, I3, rfl, q3⟩
  | true => exact ite_tt (chain_last (thn (hc pins s3 σ H3 _ I3 q3) fun w' s4 ⟨z', H4, I4, r4, q4⟩ => ho' pins s4 σ H4 y z' u w' Q I4 r2 r4 q4))
/-! ### truth -/
theorem line63 : (sizeLine : Nat) < 2 ^ 63 := by rw [sizeLine_eq]; decide
/-! ### strs and bytes -/
/-! ### scalar builtins, by CallR -/
theorem vals1 {x : V} {us : List Value} (r : Vals [x] us) : ∃ u, us = [u] ∧ RelV x u := by
  cases r with
  | cons r1 r2 => cases r2; exact ⟨_, rfl, r1⟩
theorem vals2 {x y : V} {us : List Value} (r : Vals [x, y] us) : ∃ u w', us = [u, w'] ∧ RelV x u ∧ RelV y w' := by
  cases r with
  | cons r1 r2 =>
    cases r2 with
    | cons r3 r4 => cases r4; exact ⟨_, _, rfl, r1, r3⟩
theorem call_max2 (hc : X.calm = true) : CallR X (.builtin "max") (fun xs H Q => ∃ i j, xs = [.int i, .int j] ∧ Q (.int (if j > i then j else i)) H) := by
  intro pins s σ H xs us Q I r h
  obtain ⟨i, j, rfl, q⟩ := h
  obtain ⟨u, w', rfl, ⟨t, rfl⟩, ⟨t', rfl⟩⟩ := vals2 r
  refine max_two_ints (I.ok.hd hc) fun h' tk k => ⟨_, H, I.kept k, ?_, q⟩
  by_cases hj : j > i
  · rw [if_pos hj, if_pos hj]; exact ⟨_, rfl⟩
  · rw [if_neg hj, if_neg hj]; exact ⟨_, rfl⟩
theorem call_min2 (hc : X.calm = true) : CallR X (.builtin "min") (fun xs H Q => ∃ i j, xs = [.int i, .int j] ∧ Q (.int (if j < i then j else i)) H) := by
  intro pins s σ H xs us Q I r h
  obtain ⟨i, j, rfl, q⟩ := h
  obtain ⟨u, w', rfl, ⟨t, rfl⟩, ⟨t', rfl⟩⟩ := vals2 r
  refine min_two_ints (I.ok.hd hc) fun h' tk k => ⟨_, H, I.kept k, ?_, q⟩
  by_cases hj : j < i
  · rw [if_pos hj, if_pos hj]; exact ⟨_, rfl⟩
  · rw [if_neg hj, if_neg hj]; exact ⟨_, rfl⟩
theorem call_int1 : CallR X (.type "int") (fun xs H Q => (∃ i, xs = [.int i] ∧ Q (.int i) H) ∨ ∃ k, xs = [.bl k] ∧ Q (.int (if k then 1 else 0)) H) := by
  intro pins s σ H xs us Q I r h
  rcases h with ⟨i, rfl, q⟩ | ⟨k, rfl, q⟩
  · obtain ⟨u, rfl, t, rfl⟩ := vals1 r
    exact call_int_int ⟨.int i, H, I, ⟨_, rfl⟩, q⟩
  · obtain ⟨u, rfl, r1⟩ := vals1 r
    cases r1
    exact call_int_bool ⟨.int (if k then 1 else 0), H, I.tok _, ⟨_, rfl⟩, q⟩
end
end L2

namespace L2
open PySem PySem.Spec PyProof.Rows

/-! ### an instance, its attributes a map -/
structure ObjM (h : Heap) (x dx C : Addr) (mA : Str → Option Value) : Prop where
  obj : h.get? x = some (PySem.W.instObj C dx)
  ns : h.Ns1 dx mA
  ne : dx ≠ x

theorem lookIn_ns {h : Heap} {dx : Addr} {mA : Str → Option Value} (n : h.Ns1 dx mA) : ∃ od, h.get? dx = some od ∧ ∀ name, PySem.W.lookIn name od = some (mA name) := by
  obtain ⟨o, es, ep, ho, hd, hk, _, hm⟩ := n
  refine ⟨o, ho, fun name => ?_⟩
  have e := hm name
  unfold nsFind findBy at e
  rw [← Array.find?_toList] at e
  unfold PySem.W.lookIn
  rw [hd]
  dsimp only
  split
  · rename_i y q
    rw [q] at e
    exact congrArg some e
  · rename_i q
    rw [q] at e
    have a : es.toList.any (·.refKey) = false := by
      rw [List.any_eq_false]
      intro y hy
      obtain ⟨z, t, hkey⟩ := hk y (Array.mem_toList_iff.mp hy)
      simp [DictEntry.refKey, hkey]
    have a' : ¬ es.toList.any (·.refKey) = true := by rw [a]; exact Bool.false_ne_true
    rw [if_neg a']
    exact congrArg some e

theorem ObjM.look {h : Heap} {x dx C : Addr} {mA : Str → Option Value} (I : ObjM h x dx C mA) : ∃ od, PySem.W.InstAt h x (PySem.W.instObj C dx) C (some od) ∧ ∀ name, PySem.W.lookIn name od = some (mA name) :=
  let ⟨od, ho, hl⟩ := lookIn_ns I.ns
  ⟨od, ⟨I.obj, rfl, rfl, ho⟩, hl⟩

section
variable {prog : Program} {w : World} {A : Around} {E : Value → Shared → Prop} {s : Shared} {K : PySem.W.Frag} {x dx C f : Addr} {mA : Str → Option Value} {name : Str} {v : Value}

end

/-! ### the attributes as a list of pairs -/
def putF (f : Str) (v : V) : List (Str × V) → List (Str × V)
  | [] => [(f, v)]
  | (g, x) :: r => if g = f then (g, v) :: r else (g, x) :: putF f v r
theorem lookup_putF (f g : Str) (v : V) : ∀ fs : List (Str × V), (putF f v fs).lookup g = if g = f then some v else fs.lookup g
  | [] => by
    show List.lookup g [(f, v)] = _
    by_cases h : g = f
    · have hb : (g == f) = true := beq_iff_eq.mpr h
      simp only [List.lookup, hb, if_pos h]
    · have hb : (g == f) = false := beq_eq_false_iff_ne.mpr h
      simp only [List.lookup, hb, if_neg h]
  | (k, x) :: r => by
    have ih := lookup_putF f g v r
    rw [show putF f v ((k, x) :: r) = (if k = f then (k, v) :: r else (k, x) :: putF f v r) from rfl]
    by_cases hk : k = f
    · rw [if_pos hk]
      by_cases h : g = k
      · have hb : (g == k) = true := beq_iff_eq.mpr h
        simp only [List.lookup, hb, if_pos (h.trans hk)]
      · have hb : (g == k) = false := beq_eq_false_iff_ne.mpr h
        simp only [List.lookup, hb, if_neg (fun e : g = f => h (e.trans hk.symm))]
    · rw [if_neg hk]
      by_cases h : g = k
      · have hb : (g == k) = true := beq_iff_eq.mpr h
        simp only [List.lookup, hb, if_neg (fun e : g = f => hk (h.symm.trans e))]
      · have hb : (g == k) = false := beq_eq_false_iff_ne.mpr h
        simp only [List.lookup, hb]
        exact ih
theorem keys_putF (f : Str) (v : V) : ∀ fs : List (Str × V), f ∈ (putF f v fs).map (·.1) ∧ ∀ g, g ∈ fs.map (·.1) → g ∈ (putF f v fs).map (·.1)
  | [] => ⟨by simp [putF], fun g h => by simp at h⟩
  | (k, x) :: r => by
    obtain ⟨i1, i2⟩ := keys_putF f v r
    rw [show putF f v ((k, x) :: r) = (if k = f then (k, v) :: r else (k, x) :: putF f v r) from rfl]
    by_cases hk : k = f
    · rw [if_pos hk]
      subst hk
      exact ⟨by simp, fun g h => by simpa using h⟩
    · rw [if_neg hk]
      refine ⟨?_, fun g h => ?_⟩
      · rw [List.map_cons]
        exact List.mem_cons_of_mem _ i1
      · rw [List.map_cons] at h ⊢
        rcases List.mem_cons.mp h with e | e
        · exact List.mem_cons.mpr (.inl e)
        · exact List.mem_cons_of_mem _ (i2 g e)
theorem RelO.some_of {v : V} {o : Option Value} (r : RelO (some v) o) : ∃ u, o = some u ∧ RelV v u := by
  cases o with
  | none => exact (show False from r).elim
  | some u => exact ⟨u, rfl, r⟩
theorem handed_of {v : V} {u : Value} (r : RelV v u) : PySem.W.handedIn u = true := by
  cases v with
  | non => cases (show u = Value.none from r); rfl
  | bl b => cases (show u = Value.bool b from r); rfl
  | int i => obtain ⟨t, e⟩ := (show ∃ t, u = Value.int i t from r); cases e; rfl
  | str x => obtain ⟨t, e⟩ := (show ∃ t, u = Value.str x t from r); cases e; rfl
  | byt b => obtain ⟨t, e⟩ := (show ∃ t, u = Value.bytes b t from r); cases e; rfl
  | flt b => obtain ⟨t, e⟩ := (show ∃ t, u = Value.float b t from r); cases e; rfl
  | ref a => cases (show u = Value.ref a from r); rfl
  | ty n => cases (show u = Value.type n from r); rfl

section
variable {P : Program} {w : World} {H H' : Hp} {h h' : Heap} {a C dx : Addr} {fs fs' : List (Str × V)}
theorem ins_get (hok : HOk P w H h) (e : H a = some (.ins C dx fs)) : ∃ mA, ObjM h a dx C mA ∧ (∀ f, RelO (fs.lookup f) (mA f)) ∧ PySem.Within mA (fs.map (·.1)) ∧ fs.length ≤ 1000 ∧ H dx = some (.own a) := by
  obtain ⟨d, z, ne, ob, mA, n, r, q⟩ := (show ObjOk P w H h a (.ins C dx fs) from hok a _ e)
  exact ⟨mA, ⟨ob, n, ne⟩, r, q, z, d⟩
end

/-! ### what of the text a class must have -/
structure Cls (K : PySem.W.Frag) (C : Addr) : Prop where
  pg : PySem.W.plainGet K C Str.empty = true
  hd : PySem.W.hasDictIn K C = true
  po : PySem.W.plainOver K C = true
  sa : PySem.W.findIn K (.ref C) "__setattr__" = some (some (.builtin "object.__setattr__"))
theorem Cls.get {K : PySem.W.Frag} {C : Addr} (c : Cls K C) (f : Str) : PySem.W.plainGet K C f = true := c.pg
/-- no class of it has the name -/
def NoAttr (K : PySem.W.Frag) (C : Addr) (f : Str) : Prop := PySem.W.findIn K (.ref C) f = some none

section
variable {X : Cx} {pins : List (Addr × Obj)} {σ : St} {H : Hp} {s : Shared} {a C dx : Addr} {fs : List (Str × V)} {f : Str} {v : V} {A : Around} {E : Value → Shared → Prop}

/-- e.f where nothing but the object is asked: through attributeBase (super) and the last hold -/
theorem attr_of {prog : Program} {w : World} {env : Env} {e : Expr} {f : Str} {pos : Pos} {s : Shared} {Q : Value → Shared → Prop} (hb : attributeBase e f env (eval e env) = eval e env)
    (h : wpAny (model prog w) A (eval e env) (fun o s₁ => wpAny (model prog w) A (getAttr o f true) Q E s₁) E s) : wpAny (model prog w) A (eval (.Attribute e f pos) env) Q E s :=
  Attribute_any_ h (by rw [arm_eval_Attribute, hb])
end

/-! ### readings and rules -/
section
variable {X : Cx} {o e value : Expr} {f : Str} {pos pos' tpos : Pos} {ta tv : TE}
end

/-! ### isinstance -/
section
variable {X : Cx} {pins : List (Addr × Obj)} {σ : St} {H : Hp} {s : Shared} {A : Around} {E : Value → Shared → Prop} {Q : Value → Shared → Prop} {c : Value} {b : Bool}
/-- the type of a value, as the fragment's deciders take it; for an instance its class -/
inductive TyOf (K : PySem.W.Frag) (H : Hp) : V → Value → Prop where
  | non : TyOf K H .non (.type "NoneType")
  | bl (x : Bool) : TyOf K H (.bl x) (.type "bool")
  | int (i : Int) : TyOf K H (.int i) (.type "int")
  | str (x : Str) : TyOf K H (.str x) (.type "str")
  | flt (x : UInt64) : TyOf K H (.flt x) (.type "float")
  | lst {a : Addr} {xs : List V} (e : H a = some (.lst xs)) : TyOf K H (.ref a) (.type "list")
  | frz {a : Addr} {o : Obj} {xs : List V} (e : H a = some (.frz o (.lst xs))) : TyOf K H (.ref a) (.type "list")
  | tup {a : Addr} {xs : List V} (e : H a = some (.tup xs)) : TyOf K H (.ref a) (.type "tuple")
  | dK {a : Addr} {kvs : List (Key × V)} (e : H a = some (.dK kvs)) : TyOf K H (.ref a) (.type "dict")
  | dT {a : Addr} {kvs : List (List Key × V)} (e : H a = some (.dT kvs)) : TyOf K H (.ref a) (.type "dict")
  | ins {a C dx : Addr} {fs : List (Str × V)} (e : H a = some (.ins C dx fs)) (cl : Cls K C) (ha : PySem.W.findIn K (.ref C) "__class__" = some (some (.builtin "object.__class__")))
      (hn : PySem.W.specialIn K (.builtin "object.__class__") "__get__" = some (some (.builtin "getset_descriptor.__get__"))) (htk : PySem.W.takesIn K (.builtin "object.__class__") = some true)
      (hm : PySem.W.mroIn K C (.type "object") = some true) : TyOf K H (.ref a) (.ref C)
/-- isinstance(x, c) for one class c, a built-in or an own one: kitOne's answer -/
theorem isinst_ok {x : V} {u t : Value} (I : Inv X pins σ H s) (rx : RelV x u) (ty : TyOf X.K H x t) (e : PySem.W.kitOne X.K t c = some b) (h : ∀ tk, Q (.bool b) { s with toks := tk }) :
    wpAny (model X.prog X.w) A (call (.builtin "isinstance") [u, c]) Q E s := by
  cases ty with
  | non => cases (show u = Value.none from rx); exact PySem.W.kia_one PySem.W.kitx_none I.kIn True.intro e (fun z => nomatch z) h
  | bl y => cases (show u = Value.bool y from rx); exact PySem.W.kia_one PySem.W.kitx_bool I.kIn True.intro e (fun z => nomatch z) h
  | int i => obtain ⟨t, q⟩ := (show ∃ t, u = Value.int i t from rx); cases q; exact PySem.W.kia_one PySem.W.kitx_int I.kIn True.intro e (fun z => nomatch z) h
  | str y => obtain ⟨t, q⟩ := (show ∃ t, u = Value.str y t from rx); cases q; exact PySem.W.kia_one PySem.W.kitx_str I.kIn True.intro e (fun z => nomatch z) h
  | flt y => obtain ⟨t, q⟩ := (show ∃ t, u = Value.float y t from rx); cases q; exact PySem.W.kia_one PySem.W.kitx_float I.kIn True.intro e (fun z => nomatch z) h
  | @lst a xs ea =>
    cases (show u = Value.ref a from rx)
    obtain ⟨_, _, n, _, h1⟩ := (show ObjOk X.prog X.w H s.heap a (.lst xs) from I.hok a _ ea)
    exact PySem.W.kia_one PySem.W.kitx_list I.kIn ⟨_, h1, rfl⟩ e (fun z => nomatch z) h
  | @frz a ob xs ea =>
    cases (show u = Value.ref a from rx)
    obtain ⟨_, _, _, n, _, h1⟩ := (show ObjOk X.prog X.w H s.heap a (.frz ob (.lst xs)) from I.hok a _ ea)
    exact PySem.W.kia_one PySem.W.kitx_list I.kIn ⟨_, h1, rfl⟩ e (fun z => nomatch z) h
  | @tup a xs ea =>
    cases (show u = Value.ref a from rx)
    obtain ⟨_, _, _, p⟩ := (show ObjOk X.prog X.w H s.heap a (.tup xs) from I.hok a _ ea)
    obtain ⟨o, h1, h2, _⟩ := p
    exact PySem.W.kia_one PySem.W.kitx_tuple I.kIn ⟨o, h1, h2⟩ e (fun z => nomatch z) h
  | @dK a kvs ea =>
    cases (show u = Value.ref a from rx)
    obtain ⟨_, _, vs, _, p⟩ := (show ObjOk X.prog X.w H s.heap a (.dK kvs) from I.hok a _ ea)
    obtain ⟨o, es, ep, h1, h2, _⟩ := p
    exact PySem.W.kia_one PySem.W.kitx_dict I.kIn ⟨o, h1, h2.1⟩ e (fun z => nomatch z) h
  | @dT a kvs ea =>
    cases (show u = Value.ref a from rx)
    obtain ⟨_, _, xs, _, o, es, ep, h1, h2, _⟩ := (show ObjOk X.prog X.w H s.heap a (.dT kvs) from I.hok a _ ea)
    exact PySem.W.kia_one PySem.W.kitx_dict I.kIn ⟨o, h1, h2.1⟩ e (fun z => nomatch z) h
  | @ins a C dx fs ea cl ha hn htk hm =>
    cases (show u = Value.ref a from rx)
    obtain ⟨mA, O, _⟩ := ins_get I.hok ea
    obtain ⟨od, J, _⟩ := O.look
    exact PySem.W.kia_one (PySem.W.kitx_own (cl.get _) cl.hd ha hn htk hm) I.kIn J e (fun z => nomatch z) h
end
end L2

namespace L2
open PySem PySem.Spec PyProof.Rows

/-! ### room -/
structure Room (k : Nat) (A : Around) : Prop where
  hd : A.handled = none
  dp : A.depth + 3 * k + 5 < recursionLimit
  un : A.units + 16 * k + 200 < cLine
theorem Room.mono {j k : Nat} {A : Around} (r : Room k A) (h : j ≤ k) : Room j A := ⟨r.hd, by have := r.dp; omega, by have := r.un; omega⟩
theorem Room.deeper {k : Nat} {A : Around} (r : Room (k + 1) A) (env : Env) : Room k (A.deeper env) :=
  ⟨r.hd, by have := r.dp; show A.depth + 1 + 3 * k + 5 < _; omega, by have := r.un; show A.units + 3 + 16 * k + 200 < _; omega⟩
theorem make_depth {A : Around} {C : Addr} {us : List Value} {kw : List (Str × Value)} : (A.under (.builtin "type.__call__" ⟨.ref C :: us, kw⟩)).depth = A.depth + 1 := by
  first | rfl | simp [Around.under, Code.weight, Code.isCreation, Code.isGuard, Code.isCaller, Code.frames, Code.isFrame, guardIds]
theorem make_units {A : Around} {C : Addr} {us : List Value} {kw : List (Str × Value)} : (A.under (.builtin "type.__call__" ⟨.ref C :: us, kw⟩)).units = A.units + 1 := by
  first | rfl | simp [Around.under, Code.cUnits, Code.frames, Code.isFrame]
theorem Room.make {k : Nat} {A : Around} (r : Room (k + 1) A) (C : Addr) (us : List Value) (kw : List (Str × Value)) : Room k (A.under (.builtin "type.__call__" ⟨.ref C :: us, kw⟩)) :=
  ⟨r.hd, by have := r.dp; rw [make_depth]; omega, by have := r.un; rw [make_units]; omega⟩
theorem Room.depth {k : Nat} {A : Around} (r : Room k A) : A.depth < recursionLimit := by have := r.dp; omega
theorem Room.units {k : Nat} {A : Around} (r : Room k A) : A.units + 64 < cLine := by have := r.un; omega
theorem Room.units0 {k : Nat} {A : Around} (r : Room k A) : A.units < cLine := by have := r.un; omega

/-! ### argument lists and displays -/
def tNil : TA := fun _ H Q => Q [] H
def tCons (ta : TE) (tr : TA) : TA := fun σ H Q => ta σ H fun x H1 => tr σ H1 fun xs H2 => Q (x :: xs) H2
section
variable {X : Cx} {e : Expr} {es : List Expr} {te : TE} {t : TA} {pos : Pos}
theorem pa_nil : PA X [] tNil := fun _ _ _ _ H Q I h => Calls.spliced_nil ⟨[], H, I, .nil, h⟩
theorem pa_cons (ha : PE X e te) (hr : PA X es t) (hs : starEach (e :: es) X.env = (false, eval e X.env) :: starEach es X.env := by rfl) : PA X (e :: es) (tCons te t) := by
  intro pos pins s σ H Q I h
  rw [hs]
  show wpAny _ _ (spliced ((false, eval e X.env) :: backTo pos (starEach es X.env))) _ _ s
  refine Calls.spliced_cons (thn (ha pins s σ H _ I h) fun u s1 hz0 => ?_)
  obtain ⟨x, H1, I1, r1, q1⟩ := hz0
  exact thn (hr pos pins s1 σ H1 _ I1 q1) fun us s2 ⟨xs, H2, I2, r2, q2⟩ => ⟨x :: xs, H2, I2, .cons r1 r2, q2⟩

/-- a tuple, a list of written items -/
def tTup (t : TA) : TE := fun σ H Q => t σ H fun xs H1 => xs.length ≤ sizeLine ∧ ∀ p, H1 p = none → Q (.ref p) (upd H1 p (.tup xs))
def tLst (t : TA) : TE := fun σ H Q => t σ H fun xs H1 => xs.length ≤ sizeLine ∧ ∀ p, H1 p = none → Q (.ref p) (upd H1 p (.lst xs))
theorem pe_tup {x1} (h : PA X es t) : PE X (.Tuple es x1 pos) (tTup t) := by
  intro pins s σ H Q I hq
  refine wpAny_Tuple_spliced (thn (h pos pins s σ H _ I hq) fun us s1 ⟨xs, H1, I1, r, z, q⟩ => ⟨by rw [← r.length]; exact z, ?_⟩)
  have hf : H1 s1.heap.objs.size = none := I1.hok.fresh (Nat.le_refl _)
  refine ⟨.ref s1.heap.objs.size, upd H1 s1.heap.objs.size (.tup xs), I1.laid (t' := s1.toks) (fun b u e => Heap.get?_push_of_some _ e) (Nat.le_refl _) ?_, rfl, q _ hf⟩
  exact ⟨z, us, r, ⟨_, Heap.get?_push_size _ rfl, rfl, rfl, _, rfl⟩⟩
theorem pe_lst (h : PA X es t) : PE X (.List es pos) (tLst t) := by
  intro pins s σ H Q I hq
  refine wpAny_List_spliced (thn (h pos pins s σ H _ I hq) fun us s1 ⟨xs, H1, I1, r, z, q⟩ => ⟨by rw [← r.length]; exact z, ?_⟩)
  have hf : H1 s1.heap.objs.size = none := I1.hok.fresh (Nat.le_refl _)
  refine ⟨.ref s1.heap.objs.size, upd H1 s1.heap.objs.size (.lst xs), I1.laid (t' := s1.toks) (fun b u e => Heap.get?_push_of_some _ e) (Nat.le_refl _) ?_, rfl, q _ hf⟩
  exact ⟨z, us, 0, r, Heap.get?_push_size _ rfl⟩
end

/-! ### what a def promises -/
/-- a def's promise: the bound arguments in the parameters' order, the heap, the wanted end, the wanted exception -/
abbrev Sp := List V → Hp → VK → XK → Prop
/-- how an exception lies behind a call (file 08 gives it): the callers' frames, abstract heap and state ahead of the call, the wish, the exception, the state -/
abbrev CXT := List Env → Hp → Shared → XK → Value → Shared → Prop

/-- the state at a call -/
structure Env0 (P : Program) (w : World) (K : PySem.W.Frag) (mg : Str → Option Value) (base : Heap) (A : Around) (outer : List Env) (s : Shared) (H : Hp) : Prop where
  frames : A.frames = some outer
  mod : Mod K mg base
  bs : ∀ b o, base.get? b = some o → s.heap.get? b = some o ∧ H b = none
  bsz : base.objs.size ≤ s.heap.objs.size
  funs : s.heap.FunFrames base outer
  frf : ∀ b ∈ frs outer, H b = none
  hok : HOk P w H s.heap
  bare : AllBare s.gens
/-- a call's end -/
def CE (outer : List Env) (P : Program) (w : World) (H : Hp) (s : Shared) (Q : VK) (u : Value) (s' : Shared) : Prop :=
  ∃ v H', s'.os = s.os ∧ AllBare s'.gens ∧ Un (frs outer) [] H H' s.heap s'.heap ∧ HOk P w H' s'.heap ∧ RelV v u ∧ Q v H'
def CR (CX : CXT) (outer : List Env) (P : Program) (w : World) (H : Hp) (s : Shared) (Q : VK) (E : XK) (r : Result) (s' : Shared) : Prop :=
  match r with
  | .ok (.ret u) => CE outer P w H s Q u s'
  | .ok _ => False
  | .error e => CX outer H s E e s'
structure FnOk (P : Program) (w : World) (K : PySem.W.Frag) (mg : Str → Option Value) (base : Heap) (CX : CXT) (k : Nat) (f : Addr) (fd : FuncData) (ps : List Str) (sp : Sp) : Prop where
  len : ∀ vs H Q E, sp vs H Q E → vs.length = ps.length
  run : ∀ (A : Around) (outer : List Env) (s : Shared) (H : Hp) (args : Args) (us : List Value) (vs : List V) (Q : VK) (E : XK), Room k A → Env0 P w K mg base A outer s H → BindsTo s fd args (ps.zip us) → Vals vs us → sp vs H Q E →
    codeAny (model P w) A (.call (.ref f) args) (CR CX outer P w H s Q E) s
theorem Env0.make {P : Program} {w : World} {K : PySem.W.Frag} {mg : Str → Option Value} {base : Heap} {A : Around} {outer : List Env} {s : Shared} {H : Hp} (e : Env0 P w K mg base A outer s H) (C : Addr) (us : List Value) (kw : List (Str × Value)) :
    Env0 P w K mg base (A.under (.builtin "type.__call__" ⟨.ref C :: us, kw⟩)) outer s H := ⟨by first | exact e.frames | (simpa [Around.under, Code.envs, Code.isFrame, pushEnvs] using e.frames), e.mod, e.bs, e.bsz, e.funs, e.frf, e.hok, e.bare⟩
section
variable {X : Cx} {pins : List (Addr × Obj)} {σ : St} {H : Hp} {s s' : Shared}
/-- from a body: what a callee wants -/
theorem Inv.env0 (I : Inv X pins σ H s) : Env0 X.prog X.w X.K X.mg X.base X.A X.stack s H :=
  ⟨I.ok.frames, I.ok.mod, I.bs, Nat.le_trans I.ok.bsz I.sz, I.stack, I.stkFree, I.hok, I.bare⟩
/-- behind a call -/
theorem Inv.after {Q : VK} {u : Value} (I : Inv X pins σ H s) (h : CE X.stack X.prog X.w H s Q u s') : EP X pins σ Q u s' := by
  obtain ⟨v, H', os, bare, un, hok, r, q⟩ := h
  obtain ⟨hh, g, d, t, os'⟩ := s'
  obtain rfl : os' = s.os := os
  exact ⟨v, H', I.call (h' := hh) (g' := g) (d' := d) (t' := t) (ch := []) un hok bare (fun b z => absurd z (by simp)), r, q⟩
end

/-! ### calls -/
/-- f(..): the written arguments, then the defaults dvs; E: what is wanted of an exception -/
def tCall (sp : Sp) (dvs : List V) (E : XK) (t : TA) : TE := fun σ H Q => t σ H fun vs H1 => sp (vs ++ dvs) H1 Q E
/-- how the parameters are bound: us the positional arguments, kw the keywords' values by name, ds the defaults that fill up -/
def Binds (K : PySem.W.Frag) (fd : FuncData) (ps : List Str) (ds : List Value) : Prop :=
  ∀ (s : Shared) (us : List Value), K.In s.heap → (us ++ ds).length = ps.length → BindsTo s fd ⟨us, []⟩ (ps.zip (us ++ ds))
/-- every parameter is given -/
theorem Binds.all {K : PySem.W.Frag} {fd : FuncData} {ps : List Str} (h : ∀ us : List Value, us.length = ps.length → bindArgs fd ⟨us, []⟩ = pure (ps.zip us)) : Binds K fd ps [] := fun s us _ hl => by
  rw [List.append_nil] at hl ⊢
  exact .of_eq (h us hl)

/-- an exception of a callee reaches what this body wants of exceptions -/
def Passes (CX : CXT) (X : Cx) (E : XK) : Prop := ∀ (pins : List (Addr × Obj)) (σ : St) (H : Hp) (s : Shared) (e : Value) (s' : Shared), Inv X pins σ H s → CX X.stack H s E e s' → X.xe e s'

section
variable {X : Cx} {CX : CXT} {k : Nat} {f C : Addr} {fd : FuncData} {ps : List Str} {sp : Sp} {dvs : List V} {ds : List Value} {E : XK} {x m : Str} {p pos apos : Pos} {e o : Expr} {es : List Expr} {ta : TE} {t : TA}

/-- the callee runs -/
theorem run_fn {pins : List (Addr × Obj)} {σ : St} {H : Hp} {s : Shared} {Q : VK} {us : List Value} {vs : List V} (F : FnOk X.prog X.w X.K X.mg X.base CX k f fd ps sp) (hr : Room k X.A) (hb : Binds X.K fd ps ds) (hd : Vals dvs ds) (hx : Passes CX X E)
    (I : Inv X pins σ H s) (r : Vals vs us) (h : sp (vs ++ dvs) H Q E) : wpAny (model X.prog X.w) X.A (call (.ref f) us) (EP X pins σ Q) X.xe s := by
  have r2 : Vals (vs ++ dvs) (us ++ ds) := r.append hd
  have hl : (us ++ ds).length = ps.length := by rw [← r2.length]; exact F.len _ _ _ _ h
  refine wpAny_call (codeAny_mono (F.run X.A X.stack s H ⟨us, []⟩ (us ++ ds) (vs ++ dvs) Q E hr I.env0 (hb s us I.kIn hl) r2 h) fun r s' hq => ?_)
  cases r with
  | error e => exact hx pins σ H s e s' I hq
  | ok fl =>
    cases fl with
    | ret u => exact I.after hq
    | next => exact False.elim hq
    | brk => exact False.elim hq
    | cont => exact False.elim hq

theorem pe_call (F : FnOk X.prog X.w X.K X.mg X.base CX k f fd ps sp) (hr : Room k X.A) (hg : Gl X x) (hm : X.mg x = some (.ref f)) (hk : PySem.W.keepIn X.K (.ref f) = true) (hb : Binds X.K fd ps ds) (hd : Vals dvs ds) (hx : Passes CX X E)
    (ha : PA X (e :: es) t) (hdb : (x == ("__debug__" : Str)) = false := by decide) (he : starEach (e :: es) X.env = (false, eval e X.env) :: starEach es X.env := by rfl) (hpl : (backTo pos (starEach es X.env)).any (·.1) = false := by rfl) :
    PE X (.Call (.Name x p) (e :: es) [] pos) (tCall sp dvs E t) := by
  intro pins s σ H Q I h
  refine wpAny_Call_Name_kw (ld_glob I hg hm ?_ hdb)
  refine PySem.W.callWith_K (h₀ := X.base) I.ok.mod.kin hk (thn (ha pos pins s σ H _ I h) fun us s1 ⟨vs, H1, I1, r, q⟩ => ⟨I1.kIn, ?_⟩) he hpl
  exact run_fn F hr hb hd hx I1 r q

end

/-! ### keywords -/
section
variable {X : Cx} {CX : CXT} {k : Nat} {f C : Addr} {fd : FuncData} {ps ks : List Str} {sp : Sp} {E : XK} {x m : Str} {p pos apos kpos : Pos} {e o : Expr} {es : List Expr} {kws : List Keyword} {te ta : TE} {t tk : TA} {nm : Option Str}
variable {g : List Value → List Value → List Value} {gV : List V → List V → List V}
end

/-! ### a def's body keeps its promise -/
/-- names: the parameters first -/
structure FnScope (N P : List Str) (sc : Scope) : Prop where
  kind : sc.kind = .function
  co : sc.isCoroutine = false
  gen : sc.isGenerator = false
  nd : N.Nodup
  pre : N.take P.length = P
  par : ∀ x ∈ P, sc.names.lookup x = some .local ∨ sc.names.lookup x = some .cell
  nofree : ∀ y ∈ sc.names, y.2 ≠ .free

theorem bindL_out {kindOf : Str → Option NameKind} {x : Str} : ∀ {binds : List (Str × Value)} {m : Str → Option Value}, (∀ v, (x, v) ∉ binds) → bindL kindOf binds m x = m x
  | [], _, _ => rfl
  | (n, v) :: r, m, h => by
    unfold bindL
    rw [bindL_out fun w hw => h w (List.mem_cons_of_mem _ hw)]
    split
    · have : x ≠ n := by rintro rfl; exact h v List.mem_cons_self
      simp [this]
    · rfl
theorem bindC_out {kindOf : Str → Option NameKind} {x : Str} : ∀ {binds : List (Str × Value)} {m : Str → Option Value}, (∀ v, (x, v) ∉ binds) → bindC kindOf binds m x = m x
  | [], _, _ => rfl
  | (n, v) :: r, m, h => by
    unfold bindC
    rw [bindC_out fun w hw => h w (List.mem_cons_of_mem _ hw)]
    split
    · rfl
    · have : x ≠ n := by rintro rfl; exact h v List.mem_cons_self
      simp [this]
theorem bindL_get {kindOf : Str → Option NameKind} {x : Str} {v : Value} : ∀ {P : List Str} {vs : List Value} {i : Nat} {m : Str → Option Value}, P.Nodup → P[i]? = some x → vs[i]? = some v → kindOf x = some .local →
    bindL kindOf (P.zip vs) m x = some v
  | [], _, _, _, _, h, _, _ => by simp at h
  | _ :: _, [], _, _, _, _, h, _ => by simp at h
  | p :: P, w :: vs, 0, m, nd, h1, h2, hk => by
    simp at h1 h2; subst h1; subst h2
    show bindL kindOf ((p, w) :: P.zip vs) m p = _
    unfold bindL
    rw [bindL_out fun v hv => (List.nodup_cons.mp nd).1 (List.of_mem_zip hv).1, if_pos hk]
    simp
  | p :: P, w :: vs, i + 1, m, nd, h1, h2, hk => by
    show bindL kindOf ((p, w) :: P.zip vs) m x = _
    unfold bindL
    exact bindL_get (i := i) (List.nodup_cons.mp nd).2 (by simpa using h1) (by simpa using h2) hk
theorem bindC_get {kindOf : Str → Option NameKind} {x : Str} {v : Value} : ∀ {P : List Str} {vs : List Value} {i : Nat} {m : Str → Option Value}, P.Nodup → P[i]? = some x → vs[i]? = some v → kindOf x ≠ some .local →
    bindC kindOf (P.zip vs) m x = some v
  | [], _, _, _, _, h, _, _ => by simp at h
  | _ :: _, [], _, _, _, _, h, _ => by simp at h
  | p :: P, w :: vs, 0, m, nd, h1, h2, hk => by
    simp at h1 h2; subst h1; subst h2
    show bindC kindOf ((p, w) :: P.zip vs) m p = _
    unfold bindC
    rw [bindC_out fun v hv => (List.nodup_cons.mp nd).1 (List.of_mem_zip hv).1, if_neg hk]
    simp
  | p :: P, w :: vs, i + 1, m, nd, h1, h2, hk => by
    show bindC kindOf ((p, w) :: P.zip vs) m x = _
    unfold bindC
    exact bindC_get (i := i) (List.nodup_cons.mp nd).2 (by simpa using h1) (by simpa using h2) hk

/-- the names' values at the entry -/
def start (N : List Str) (vs : List V) : St := vs.map some ++ List.replicate (N.length - vs.length) none

/-- the context of a def's body, at its entry; an exception leaves the frame, then lies as CX says -/
def cxOf (CX : CXT) (P : Program) (w : World) (K : PySem.W.Frag) (mg : Str → Option Value) (base : Heap) (N : List Str) (qual : Str) (scope : Scope) (f : Addr) (cd : Value) (A : Around) (outer : List Env) (s : Shared) (H : Hp) (E : XK) : Cx where
  prog := P
  w := w
  K := K
  mg := mg
  base := base
  A := A.deeper (envOfC qual scope s.heap.objs.size f cd)
  N := N
  s₀ := s
  H₀ := H
  env := envOfC qual scope s.heap.objs.size f cd
  outer := outer
  stack := envOfC qual scope s.heap.objs.size f cd :: outer
  ex := []
  calm := true
  fn := fun _ => true
  pn := []
  xe := fun e s' => wpAny (model P w) (A.deeper (envOfC qual scope s.heap.objs.size f cd)) (leaving (envOfC qual scope s.heap.objs.size f cd) e) (fun _ s'' => CX outer H s E e s'') (fun e' s'' => CX outer H s E e' s'') s'

theorem cell_has {sc : Scope} {n : Nat} {x : Str} (h : sc.names.lookup x = some .cell) : ∃ c, (cellsFrom n sc.names []).lookup x = some c := by
  have q := PySem.W.cellsFrom_some sc.names n [] (.inl h)
  exact Option.isSome_iff_exists.mp q

theorem inv_start {CX : CXT} {P : Program} {w : World} {K : PySem.W.Frag} {mg : Str → Option Value} {base : Heap} {N ps : List Str} {qual : Str} {scope : Scope} {f : Addr} {cd : Value} {A : Around} {outer : List Env} {s s1 : Shared} {H : Hp} {E : XK} {us : List Value} {vs : List V}
    (S : FnScope N ps scope) (hd : A.handled = none) (e0 : Env0 P w K mg base A outer s H) (hl : vs.length = ps.length) (r : Vals vs us)
    (x : InCallC s s.heap.objs.size (bindL (envOfC qual scope s.heap.objs.size f cd).kindOf (ps.zip us) fun _ => none) (cellsFrom (s.heap.objs.size + 1) scope.names []) (bindC (envOfC qual scope s.heap.objs.size f cd).kindOf (ps.zip us) fun _ => none) s1) :
    Inv (cxOf CX P w K mg base N qual scope f cd A outer s H E) [] (start N vs) H s1 := by
  have hpl : ps.length ≤ N.length := by have := congrArg List.length S.pre; rw [List.length_take] at this; omega
  obtain ⟨h1, tk, rfl, hk⟩ := x.done
  have noA : ∀ b : Addr, b ∉ (cxOf CX P w K mg base N qual scope f cd A outer s H E).ex := fun b z => absurd (show b ∈ ([] : List Addr) from z) (by simp)
  refine ⟨⟨e0.mod, S.kind, rfl, rfl, Nat.le_refl _, fun y z c h1 h2 => ?_, fun y hy => ?_, fun y c _ h => ?_, fun _ => hd, Around.frames_deeper e0.frames, .inr ⟨rfl, rfl⟩, fun b z => absurd z (noA b), e0.bs, e0.bsz, fun b _ _ => noA b, fun b z => absurd z (noA b), e0.funs, e0.frf⟩,
    rfl, e0.bare, Un.kept hk, ⟨_, x.toInCall.ns, fun i y v h1 h2 h3 => ?_⟩, fun y c h => ⟨_, x.cell y c h⟩, e0.hok.fresh (Nat.le_refl _), fun y c h => ?_, fun p hp => absurd (show p ∈ ([] : List (Addr × Obj)) from hp) (by simp), e0.hok.kept hk, ?_⟩
  · exact name_of_addr x.apart (PySem.mem_of_lookup h1) (PySem.mem_of_lookup h2)
  · have hy : scope.names.lookup y = some .cell ∨ scope.names.lookup y = some .free := hy
    rcases hy with hy | hy
    · exact cell_has hy
    · exact absurd rfl (S.nofree _ (PySem.mem_of_lookup hy))
  · exact Nat.le_of_lt (x.above y c (PySem.mem_of_lookup h))
  · have hi : i < vs.length := by
      unfold start at h2
      by_cases hi : i < vs.length
      · exact hi
      · rw [List.getElem?_append_right (by simpa using hi)] at h2
        rw [List.getElem?_replicate] at h2
        split at h2 <;> cases h2
    have ha : vs[i]? = some v := by
      unfold start at h2
      rw [List.getElem?_append_left (by simpa using hi), List.getElem?_map] at h2
      cases e : vs[i]? with
      | none => rw [e] at h2; cases h2
      | some a => rw [e] at h2; cases h2; rfl
    obtain ⟨u, hu, rv⟩ := r.get ha
    have hp : ps[i]? = some y := by
      rw [← S.pre, List.getElem?_take_of_lt (by omega)]; exact h1
    have ndP : ps.Nodup := by rw [← S.pre]; exact S.nd.sublist (List.take_sublist _ _)
    refine ⟨u, rv, ?_⟩
    rcases S.par y (List.mem_of_getElem? hp) with k | k
    · exact .inl ⟨k, bindL_get ndP hp hu k⟩
    · obtain ⟨c, e⟩ := cell_has (n := s.heap.objs.size + 1) k
      refine .inr ⟨.inl k, c, e, ?_⟩
      have q := x.cell y c e
      rw [bindC_get ndP hp hu (by show scope.names.lookup y ≠ _; rw [k]; decide)] at q
      exact q
  · exact e0.hok.fresh (Nat.le_of_lt (x.above y c (PySem.mem_of_lookup h)))
  · unfold start
    show _ = N.length
    rw [List.length_append, List.length_map, List.length_replicate]
    omega

/-- THE RULE: a def (or a method) of the text, by its body. The body's reading t is chosen for each entry; it is run at the parameters' values -/
theorem fn_of {CX : CXT} {P : Program} {w : World} {K : PySem.W.Frag} {mg : Str → Option Value} {base : Heap} {k : Nat} {f : Addr} {name qual : Str} {params : Arguments} {body : List Stmt} {scope : Scope} {dV kV doc pm cdv ct oc : Value} {an od : Option Addr}
    {osl : Array (Option Value)} {N ps : List Str} {sp : Sp} (lk : K.lookup f = some ⟨oc, od, .func (PySem.W.fnOf name qual params body scope dV kV doc pm an cdv ct), osl⟩) (hcd : PySem.W.codeIn K cdv qual = true) (S : FnScope N ps scope)
    (len : ∀ vs H Q E, sp vs H Q E → vs.length = ps.length)
    (hbody : ∀ (A : Around) (outer : List Env) (s : Shared) (H : Hp) (vs : List V) (Q : VK) (E : XK), Room k (A.deeper (envOfC qual scope s.heap.objs.size f cdv)) → sp vs H Q E →
      ∃ t, PSs (cxOf CX P w K mg base N qual scope f cdv A outer s H E) body t ∧ t { nx := fun _ H' => Q .non H', rt := Q } (start N vs) H) :
    FnOk P w K mg base CX (k + 1) f (PySem.W.fnOf name qual params body scope dV kV doc pm an cdv ct) ps sp := by
  refine ⟨len, fun A outer s H args us vs Q E hr e0 hb r hsp => ?_⟩
  have hl := len _ _ _ _ hsp
  have KX : K.In s.heap := e0.mod.kin.keeps fun b o e => (e0.bs b o e).1
  have lim : s.heap.NoLimit := e0.mod.nolimit.keeps fun b o e => (e0.bs b o e).1
  have hkind : ∀ y ∈ ps.zip us, scope.names.lookup y.1 = some .local ∨ (scope.names.lookup y.1 = some .cell ∧ ((cellsFrom (s.heap.objs.size + 1) scope.names []).lookup y.1).isSome = true) := fun ⟨n, v⟩ hy => by
    rcases S.par n (List.of_mem_zip hy).1 with q | q
    · exact .inl q
    · exact .inr ⟨q, PySem.W.cellsFrom_some _ _ _ (.inl q)⟩
  refine codeAny_call_function hr.depth (KX _ _ lk) rfl S.co S.gen rfl (PySem.W.codeRec_of KX hcd) (hb _ _ _ _ ?_)
  refine wpAny_newFunctionEnv_cells S.kind hkind fun env he s1 x => ?_
  subst he
  refine ⟨lim.keeps x.toInCall.keep, codeAny_func ?_⟩
  obtain ⟨t, ht, hq⟩ := hbody A outer s H vs Q E (hr.deeper _) hsp
  have I : Inv (cxOf CX P w K mg base N qual scope f cdv A outer s H E) [] (start N vs) H s1 := inv_start S hr.hd e0 hl r x
  refine wpAny_mono (ht [] s1 (start N vs) H _ I hq) (fun fl s' hs => ?_) fun e s' hs => hs
  have fin : ∀ {σ' : St} {H' : Hp} {v : V} {u : Value}, Inv (cxOf CX P w K mg base N qual scope f cdv A outer s H E) [] σ' H' s' → RelV v u → Q v H' → CE outer P w H s Q u s' :=
    fun {σ' H' v u} J rv q => ⟨v, H', J.os, J.bare, J.base, J.hok, rv, q⟩
  cases fl with
  | ret u =>
    obtain ⟨v, σ', H', J, rv, q⟩ := hs
    exact fin J rv q
  | next =>
    obtain ⟨σ', H', J, q⟩ := hs
    exact fin (v := V.non) (u := Value.none) J rfl q
  | brk =>
    obtain ⟨_, _, _, q⟩ := hs
    exact False.elim q
  | cont =>
    obtain ⟨_, _, _, q⟩ := hs
    exact False.elim q
end L2

namespace L2
open PySem PySem.Spec PyProof.Rows
section
variable {X : Cx} {x : Str} {p pos : Pos} {e : Expr} {es : List Expr} {t : TA} {id T : String} {r : List V → Hp → VK → Prop}

def tCB (r : List V → Hp → VK → Prop) (t : TA) : TE := fun σ H Q => t σ H fun vs H1 => r vs H1 Q
/-- f(e, ..), f a built-in function -/
theorem pe_callB (hc : CallR X (.builtin id) r) (hg : Gl X x) (hm : X.mg x = none) (hv : bootBuiltins x = some (.builtin id)) (ha : PA X (e :: es) t) (hn : x ≠ "__name__" := by decide) (hdb : (x == ("__debug__" : Str)) = false := by decide)
    (he : starEach (e :: es) X.env = (false, eval e X.env) :: starEach es X.env := by rfl) (hpl : (backTo pos (starEach es X.env)).any (·.1) = false := by rfl) : PE X (.Call (.Name x p) (e :: es) [] pos) (tCB r t) := by
  intro pins s σ H Q I h
  refine wpAny_Call_Name_kw (ld_blt I hg hm hv ?_ hn hdb)
  exact PyProof.Rows.callWith_builtin1 (thn (ha pos pins s σ H _ I h) fun us s1 ⟨vs, H1, I1, r1, q1⟩ => hc pins s1 σ H1 vs us Q I1 r1 q1) he hpl
/-- T(e, ..), T a built-in type -/
theorem pe_callTy (hc : CallR X (.type T) r) (hg : Gl X x) (hm : X.mg x = none) (hv : bootBuiltins x = some (.type T)) (ha : PA X (e :: es) t) (hn : x ≠ "__name__" := by decide) (hdb : (x == ("__debug__" : Str)) = false := by decide)
    (he : starEach (e :: es) X.env = (false, eval e X.env) :: starEach es X.env := by rfl) (hpl : (backTo pos (starEach es X.env)).any (·.1) = false := by rfl) : PE X (.Call (.Name x p) (e :: es) [] pos) (tCB r t) := by
  intro pins s σ H Q I h
  refine wpAny_Call_Name_kw (ld_blt I hg hm hv ?_ hn hdb)
  exact PyProof.Rows.callWith_type1 (thn (ha pos pins s σ H _ I h) fun us s1 ⟨vs, H1, I1, r1, q1⟩ => hc pins s1 σ H1 vs us Q I1 r1 q1) he hpl
end
end L2

namespace HT
open PySem PyProof.Rows

section
open PySem.SeqAt
open PySem.AutoSeq1 (wpAny_loadPart')
open PySem.MeetsSeq PySem.MeetsSeq2 PySem.MeetsSeq3

end

section
variable {prog : Program} {w : World} {A : Around} {E : Value → Shared → Prop} {s : Shared}

/-- t + u, t not empty -/
theorem cat_tup {t b : Addr} {vs ws : List Value} {Q : Value → Shared → Prop} (ht : IsTup s.heap t vs.toArray) (hb : IsTup s.heap b ws.toArray) (hv : vs ≠ [])
    (h1 : ws = [] → Q (.ref t) s) (h2 : ws ≠ [] → Q (.ref s.heap.objs.size) { s with heap := s.heap.push { cls := .type "tuple", data := .seq (vs ++ ws).toArray } })
    (hsz : vs.length + ws.length ≤ sizeLine) : wpAny (model prog w) A (binaryOp .Add (.ref t) (.ref b)) Q E s := by
  obtain ⟨⟨cls, dd, data, sl⟩, ho, hc, n, hd⟩ := id ht
  obtain ⟨⟨cls2, dd2, data2, sl2⟩, ho2, hc2, n2, hd2⟩ := id hb
  simp only at hc hd hc2 hd2
  subst hc hd hc2 hd2
  have e : vs.toArray ++ ws.toArray = (vs ++ ws).toArray := by simp
  by_cases hw : ws = []
  · exact concat_meets ⟨_, ho, rfl⟩ ⟨_, ho2, rfl⟩ noFill_tuple_add seq_tuple_add PySem.F.slot_tuple_add PySem.F.entry_tuple_add (PySem.F.args_tuple_add_2 _ _)
      (tuple_addW1 t b vs.toArray ws.toArray n n2 dd dd2 sl sl2 (by simpa using hv) (by simp [hw])) ⟨ho, ho2, h1 hw⟩
  · refine concat_meets ⟨_, ho, rfl⟩ ⟨_, ho2, rfl⟩ noFill_tuple_add seq_tuple_add PySem.F.slot_tuple_add PySem.F.entry_tuple_add (PySem.F.args_tuple_add_2 _ _)
      (tuple_addW2 t b vs.toArray ws.toArray n n2 dd dd2 sl sl2 (by simpa using hv) (by simpa using hw) (by rw [List.size_toArray, List.size_toArray]; exact hsz)) ⟨ho, ho2, ?_⟩
    rw [e]
    exact h2 hw

/-! ### t[a:b], not the whole -/
/-- a slice's bound as a place among n (d where it is left out) -/
def sIx (n d : Nat) : Option Int → Nat
  | none => d
  | some v => if v < 0 then (v + (n : Int)).toNat else min v.toNat n
theorem sIx_nat (n d k : Nat) : sIx n d (some (k : Int)) = min k n := by
  show (if (k : Int) < 0 then ((k : Int) + (n : Int)).toNat else min (k : Int).toNat n) = min k n
  rw [if_neg (by omega), Int.toNat_natCast]
theorem sIx_le (n d : Nat) (hd : d ≤ n) (o : Option Int) : sIx n d o ≤ n := by
  cases o with
  | none => exact hd
  | some v =>
    show (if v < 0 then (v + (n : Int)).toNat else min v.toNat n) ≤ n
    by_cases hv : v < 0
    · rw [if_pos hv]; omega
    · rw [if_neg hv]; exact Nat.min_le_right _ _
theorem clip_eq (v : Int) (n d : Nat) : (if v < 0 then max (v + (n : Int)) 0 else min v (n : Int)) = ((sIx n d (some v) : Nat) : Int) := by
  show (if v < 0 then max (v + (n : Int)) 0 else min v (n : Int)) = (((if v < 0 then (v + (n : Int)).toNat else min v.toNat n) : Nat) : Int)
  by_cases hv : v < 0
  · simp only [if_pos hv]; omega
  · simp only [if_neg hv]; omega
theorem adjust_gen (lo hi : Option Int) (n : Nat) : Builtin.Slice.sliceAdjust lo hi 1 (n : Int) = (((sIx n 0 lo : Nat) : Int), ((sIx n n hi : Nat) : Int)) := by
  have h1 : ¬ ((1 : Int) < 0) := by omega
  unfold Builtin.Slice.sliceAdjust
  simp only [h1, if_false]
  refine Prod.ext ?_ ?_
  · cases lo with
    | none => rfl
    | some v => exact clip_eq v n 0
  · cases hi with
    | none => rfl
    | some v => exact clip_eq v n n
theorem places_gen (i j : Nat) : Builtin.Slice.slicePlaces (i : Int) (j : Int) 1 = j - i := by
  unfold Builtin.Slice.slicePlaces
  have h1 : (1 : Int) > 0 := by omega
  simp only [h1, if_true, Int.ediv_one]
  split <;> omega
theorem slicePart_ {v : Value} {o : Option Int} {Q : Option Int → Shared → Prop} (p : IsPart v o) (h : Q o s) : wpAny (model prog w) A (Builtin.Slice.slicePartIndex v) Q E s := by
  cases p with
  | none => exact slicePart_none h
  | int i t => exact slicePart_int h
theorem sliceApplied_gen {sl : Addr} {vl vu : Value} {lo hi : Option Int} {n : Nat} {Q : Int × Int × Nat → Shared → Prop} (hs : s.heap.IsSliceOf sl vl vu .none) (pl : IsPart vl lo) (pu : IsPart vu hi)
    (h : Q (((sIx n 0 lo : Nat) : Int), 1, sIx n n hi - sIx n 0 lo) s) : wpAny (model prog w) A (Builtin.Slice.sliceApplied (.ref sl) (pure (n : Int))) Q E s := by
  obtain ⟨os, hos, hcs, hds⟩ := id hs
  unfold Builtin.Slice.sliceApplied Builtin.Slice.sliceFields
  refine wpAny_bind (wpAny_bind (wpAny_field hos hds (x := vl) rfl (wpAny_bind (wpAny_field hos hds (x := vu) rfl (wpAny_bind (wpAny_field hos hds (x := .none) rfl (wpAny_pure ?_)))))))
  refine wpAny_bind (slicePart_none ?_)
  show wpAny _ _ (if ((1 : Int) == 0) = true then _ else _) _ _ s
  rw [if_neg (by decide)]
  refine wpAny_bind (slicePart_ pl (wpAny_bind (slicePart_ pu (wpAny_bind (wpAny_pure ?_)))))
  show wpAny _ _ (match Builtin.Slice.sliceAdjust lo hi 1 (n : Int) with | (lo, hi) => pure (lo, (1 : Int), Builtin.Slice.slicePlaces lo hi 1)) _ _ s
  rw [adjust_gen lo hi n]
  show wpAny _ _ (pure (((sIx n 0 lo : Nat) : Int), (1 : Int), Builtin.Slice.slicePlaces ((sIx n 0 lo : Nat) : Int) ((sIx n n hi : Nat) : Int) 1)) _ _ s
  rw [places_gen]
  exact wpAny_pure h
theorem pick_gen (xs : Array Value) (i k : Nat) : ((List.range k).filterMap fun (m : Nat) => xs[((i : Int) + (m : Int) * 1).toNat]?).toArray = ((xs.toList.drop i).take k).toArray := by
  have e : (fun (m : Nat) => xs[((i : Int) + (m : Int) * 1).toNat]?) = fun m => xs[i + m]? := by
    funext m
    have : ((i : Int) + (m : Int) * 1).toNat = i + m := by omega
    rw [this]
  rw [e]
  have := pick_run xs i k
  rw [List.filterMap_map] at this
  have e2 : ((fun x => xs[x]?) ∘ fun x => i + x) = fun m => xs[i + m]? := rfl
  rw [e2] at this
  rw [this]

theorem getItem_tuple_cut {t sl : Addr} {items : Array Value} {vl vu : Value} {lo hi : Option Int} {Q : Value → Shared → Prop} (ht : IsTup s.heap t items) (hs : s.heap.IsSliceOf sl vl vu .none) (pl : IsPart vl lo) (pu : IsPart vu hi)
    (hw : ¬ (sIx items.size 0 lo = 0 ∧ sIx items.size items.size hi = items.size))
    (h : Q (.ref s.heap.objs.size) { s with heap := s.heap.push { cls := .type "tuple", data := .seq ((items.toList.drop (sIx items.size 0 lo)).take (sIx items.size items.size hi - sIx items.size 0 lo)).toArray } })
    (hsz : items.size ≤ sizeLine) : wpAny (model prog w) A (getItem (.ref t) (.ref sl)) Q E s := by
  have htake : sizeOk (.seq ((items.toList.drop (sIx items.size 0 lo)).take (sIx items.size items.size hi - sIx items.size 0 lo)).toArray) := by
    show ((items.toList.drop (sIx items.size 0 lo)).take (sIx items.size items.size hi - sIx items.size 0 lo)).toArray.size ≤ sizeLine
    rw [List.size_toArray, List.length_take, List.length_drop, Array.length_toList]
    omega
  have hj : sIx items.size items.size hi ≤ items.size := sIx_le _ _ (Nat.le_refl _) hi
  obtain ⟨os, hos, hcs, hds⟩ := id hs
  have hTs : s.TypeIs (.ref sl) "slice" := ⟨os, hos, hcs⟩
  unfold getItem
  try with_reducible refine wpAny_holding ?_
  first | refine wpAny_bind (wpAny_pure ?_) | skip
  refine wpAny_bind (wpAny_sequenceKey ht.typeIs (by decide) ?_)
  refine wpAny_bind (wpAny_callSpecial?_slot (name := Str.ofString "__getitem__") ht.typeIs PyProof.Rows.slot_tuple_getitem
    (wpAny_call_entry PyProof.Rows.slot_tuple_getitem ht.typeIs entry_tuple_getitem ?_ (args_tuple_getitem _ _)))
  show wpAny _ _ (Builtin.Tuple.tupleItemsOf (.ref t) >>= _) _ _ s
  refine wpAny_bind (tupleItemsOf_ ht ?_)
  refine wpAny_bind (wpAny_typeOf hTs ?_)
  rw [if_pos (by decide)]
  refine wpAny_bind (sliceApplied_gen hs pl pu ?_)
  have hno : ¬ ((((sIx items.size 0 lo : Nat) : Int) == 0 && (1 : Int) == 1 && (sIx items.size items.size hi - sIx items.size 0 lo) == items.size) = true) := by
    intro q
    rw [Bool.and_eq_true, Bool.and_eq_true] at q
    have q1 : ((sIx items.size 0 lo : Nat) : Int) = 0 := eq_of_beq q.1.1
    have q2 : sIx items.size items.size hi - sIx items.size 0 lo = items.size := eq_of_beq q.2
    exact hw ⟨by omega, by omega⟩
  show wpAny _ _ (if (((sIx items.size 0 lo : Nat) : Int) == 0 && (1 : Int) == 1 && (sIx items.size items.size hi - sIx items.size 0 lo) == items.size) = true then _ else _) _ _ s
  rw [if_neg hno, pick_gen]
  first
    | exact wpAny_bind (m := Builtin.Tuple.tupleExact _) (wpAny_newObj_type (wpAny_pure ⟨_, rfl, wpAny_pure h⟩) htake)
    | exact wpAny_bind (m := Builtin.Tuple.tupleExact _) (wpAny_newObj_type (wpAny_bind (wpAny_pure (wpAny_pure ⟨_, rfl, wpAny_pure h⟩))) htake)
    | exact wpAny_bind (wpAny_bind (m := Builtin.Tuple.tupleExact _) (wpAny_newObj_type (wpAny_pure (wpAny_pure ⟨_, rfl, wpAny_pure h⟩)) htake))
    | exact wpAny_bind (wpAny_bind (m := Builtin.Tuple.tupleExact _) (wpAny_newObj_type (wpAny_pure ⟨_, rfl, wpAny_pure h⟩) htake))
end
end HT

namespace L2
open PySem PySem.Spec PyProof.Rows

/-! ### the parts of a slice -/
abbrev TO := St → Hp → (Option Int → Hp → Prop) → Prop
/-- a slice's part (left out, or an int) -/
def PO (X : Cx) (e : Option Expr) (t : TO) : Prop :=
  ∀ (pins : List (Addr × Obj)) (s : Shared) (σ : St) (H : Hp) (Q : Option Int → Hp → Prop), Inv X pins σ H s → t σ H Q →
    wpAny (model X.prog X.w) X.A (evalPart e X.env) (fun u s' => ∃ o H', Inv X pins σ H' s' ∧ IsPart u o ∧ Q o H') X.xe s
def tNoPart : TO := fun _ H Q => Q none H
def tPart (t : TE) : TO := fun σ H Q => t σ H fun x H1 => ∃ i, x = .int i ∧ Q (some i) H1

section
variable {X : Cx} {e : Expr} {te : TE} {lo hi : Option Expr} {tl th : TO} {pos p2 : Pos}

theorem po_none : PO X none tNoPart := by
  intro pins s σ H Q I h
  rw [evalPart_none]
  exact wpAny_pure ⟨none, H, I, .none, h⟩
theorem po_some (h : PE X e te) : PO X (some e) (tPart te) := by
  intro pins s σ H Q I hw
  rw [evalPart_some]
  refine thn (h pins s σ H _ I hw) fun u s1 hz0 => ?_
  obtain ⟨x, H1, I1, r1, q1⟩ := hz0
  obtain ⟨i, rfl, q⟩ := q1
  obtain ⟨t, rfl⟩ := r1
  exact ⟨some i, H1, I1, .int i t, q⟩

/-- what a slice of a value is, by values: the slice object stands at sl -/
def SlR (X : Cx) (r : V → Option Int → Option Int → Hp → VK → Prop) : Prop :=
  ∀ (pins : List (Addr × Obj)) (s : Shared) (σ : St) (H : Hp) (x : V) (v vl vu : Value) (lo hi : Option Int) (sl : Addr) (Q : VK), Inv X pins σ H s → RelV x v → s.heap.IsSliceOf sl vl vu .none → IsPart vl lo → IsPart vu hi → r x lo hi H Q →
    ∃ T id, typeLookup (.type T) "__getitem__" = pure (some (.builtin id)) ∧ s.TypeIs v T ∧ wpAny (model X.prog X.w) X.A (getItem v (.ref sl)) (EP X pins σ Q) X.xe s
def tSl (r : V → Option Int → Option Int → Hp → VK → Prop) (te : TE) (tl th : TO) : TE := fun σ H Q => te σ H fun x H1 => tl σ H1 fun l H2 => th σ H2 fun u H3 => r x l u H3 Q
/-- a[lo:hi], any a -/
theorem pe_slice {r : V → Option Int → Option Int → Hp → VK → Prop} (hr : SlR X r) (he : PE X e te) (hl : PO X lo tl) (hu : PO X hi th) : PE X (.Subscript e (.Slice lo hi none p2) pos) (tSl r te tl th) := by
  intro pins s σ H Q I h
  refine Subscript_ (thn (he pins s σ H _ I h) fun v s1 hz0 => ?_)
  obtain ⟨x, H1, I1, r1, q1⟩ := hz0
  refine wpAny_Slice (thn (hl pins s1 σ H1 _ I1 q1) fun vl s2 ⟨l, H2, I2, pl, q2⟩ => thn (hu pins s2 σ H2 _ I2 q2) fun vu s3 hz0 => ?_)
  obtain ⟨u, H3, I3, pu, q3⟩ := hz0
  rw [evalPart_none]
  refine wpAny_pure ?_
  have I4 : Inv X pins σ H3 { s3 with heap := s3.heap.push { cls := .type "slice", data := .fields #[vl, vu, .none] } } := I3.kept (t' := s3.toks) fun b ob q => Heap.get?_push_of_some _ q
  obtain ⟨T, id, hT, ht, hg⟩ := hr pins { s3 with heap := s3.heap.push { cls := .type "slice", data := .fields #[vl, vu, .none] } } σ H3 x v vl vu l u s3.heap.objs.size Q I4 r1 (Heap.IsSliceOf.new ..) pl pu q3
  show wpAny (model X.prog X.w) X.A (subscriptTail e (.Slice lo hi none p2) v (.ref s3.heap.objs.size)) (EP X pins σ Q) X.xe { s3 with heap := s3.heap.push { cls := .type "slice", data := .fields #[vl, vu, .none] } }
  exact tail_any (ops := [.ref s3.heap.objs.size, v]) ht hT hg (by with_unfolding_all rfl)

/-- the items of xs[lo:hi] -/
def cutV (xs : List V) (lo hi : Option Int) : List V := (xs.drop (HT.sIx xs.length 0 lo)).take (HT.sIx xs.length xs.length hi - HT.sIx xs.length 0 lo)
theorem cutV_length (xs : List V) (lo hi : Option Int) : (cutV xs lo hi).length ≤ xs.length := by
  unfold cutV
  rw [List.length_take, List.length_drop]
  omega
/-- t[lo:hi], not the whole of it (the whole would be t itself) -/
def rSlT (K : PySem.W.Frag) : V → Option Int → Option Int → Hp → VK → Prop := fun x lo hi H Q => ∃ a xs, x = .ref a ∧ SqT K H a xs ∧
  ¬ (HT.sIx xs.length 0 lo = 0 ∧ HT.sIx xs.length xs.length hi = xs.length) ∧ ∀ p, H p = none → Q (.ref p) (upd H p (.tup (cutV xs lo hi)))
theorem sl_tup : SlR X (rSlT X.K) := by
  intro pins s σ H x v vl vu lo hi sl Q I rx hs pl pu h
  obtain ⟨a, xs, rfl, hx, hw, q⟩ := h
  cases rx
  obtain ⟨its, r, ht, hz⟩ := I.tuple hx
  have hlen : its.toArray.size = xs.length := by rw [List.size_toArray]; exact r.length.symm
  refine ⟨"tuple", _, PyProof.Rows.slot_tuple_getitem.lookup, ht.typeIs, ?_⟩
  refine HT.getItem_tuple_cut ht hs pl pu (by rw [hlen]; exact hw) ?_ (by rw [hlen]; exact hz)
  rw [hlen]
  refine ⟨.ref s.heap.objs.size, _, I.laid (t' := s.toks) (o := .tup (cutV xs lo hi)) (fun b ob q => Heap.get?_push_of_some _ q) (Nat.le_refl _) ?_, rfl, q _ (I.hok.fresh (Nat.le_refl _))⟩
  exact ⟨Nat.le_trans (cutV_length xs lo hi) hz, _, (r.drop (HT.sIx xs.length 0 lo)).take (HT.sIx xs.length xs.length hi - HT.sIx xs.length 0 lo), IsTupN.new _ _⟩

/-! ### t < u, t + u -/
/-- t + u, t not empty: u empty gives t itself -/
def rCatT (K : PySem.W.Frag) : R2 := fun x y H Q => ∃ a b xs ys, x = .ref a ∧ y = .ref b ∧ SqT K H a xs ∧ SqT K H b ys ∧ xs ≠ [] ∧ xs.length + ys.length ≤ sizeLine ∧
  (ys = [] → Q (.ref a) H) ∧ (ys ≠ [] → ∀ p, H p = none → Q (.ref p) (upd H p (.tup (xs ++ ys))))
theorem Vals.nil_iff {xs : List V} {us : List Value} (r : Vals xs us) : us = [] ↔ xs = [] := by
  cases r with
  | nil => simp
  | cons _ _ => simp
theorem op_catT : OpR X (binaryOp .Add) (rCatT X.K) := by
  intro pins s σ H x y v u Q I rx ry h
  obtain ⟨a, b, xs, ys, rfl, rfl, ha, hb, hx, hz, q1, q2⟩ := h
  cases rx
  cases ry
  obtain ⟨its, r1, p1, _⟩ := I.tuple ha
  obtain ⟨its2, r2, p2, _⟩ := I.tuple hb
  refine HT.cat_tup p1 p2 (fun z => hx (r1.nil_iff.mp z)) (fun z => ⟨.ref a, H, I, rfl, q1 (r2.nil_iff.mp z)⟩) (fun z => ?_) (by rw [← r1.length, ← r2.length]; exact hz)
  refine ⟨.ref s.heap.objs.size, _, I.laid (t' := s.toks) (o := .tup (xs ++ ys)) (fun b ob q => Heap.get?_push_of_some _ q) (Nat.le_refl _) ?_, rfl, q2 (fun w => z (r2.nil_iff.mpr w)) _ (I.hok.fresh (Nat.le_refl _))⟩
  exact ⟨by rw [List.length_append]; exact hz, _, r1.append r2, IsTupN.new _ _⟩
end
end L2

namespace L2
open PySem PySem.Spec PyProof.Rows

/-! ### places -/
/-- the place that an index of any sign means -/
def ixN (n : Nat) (i : Int) : Option Nat := if 0 ≤ i then (if i < n then some i.toNat else none) else if -(n : Int) ≤ i then some (i + n).toNat else none
def atI {α : Type} (xs : List α) (i : Int) : Option α := (ixN xs.length i).bind fun j => xs[j]?
theorem ixN_seq {n : Nat} {i : Int} {j : Nat} (h : ixN n i = some j) : seqIndex? i n = some j ∧ j < n ∧ -(n : Int) ≤ i ∧ i < n := by
  unfold ixN at h
  by_cases h0 : 0 ≤ i
  · rw [if_pos h0] at h
    by_cases h1 : i < n
    · rw [if_pos h1] at h
      have e : i.toNat = j := Option.some.inj h
      exact ⟨by rw [seqIndex_of h0 h1, e], by omega, by omega, h1⟩
    · rw [if_neg h1] at h; cases h
  · rw [if_neg h0] at h
    by_cases h1 : -(n : Int) ≤ i
    · rw [if_pos h1] at h
      have e : (i + n).toNat = j := Option.some.inj h
      exact ⟨by rw [seqIndex_neg (by omega) h1, e], by omega, h1, by omega⟩
    · rw [if_neg h1] at h; cases h
theorem atI_get {α : Type} {xs : List α} {i : Int} {v : α} (h : atI xs i = some v) : ∃ j, seqIndex? i xs.length = some j ∧ xs[j]? = some v ∧ j < xs.length ∧ -(xs.length : Int) ≤ i ∧ i < xs.length := by
  unfold atI at h
  cases e : ixN xs.length i with
  | none => rw [e] at h; cases h
  | some j =>
    rw [e] at h
    obtain ⟨h1, h2, h3, h4⟩ := ixN_seq e
    exact ⟨j, h1, h, h2, h3, h4⟩
theorem atI_nat {α : Type} {xs : List α} {j : Nat} {v : α} (h : xs[j]? = some v) : atI xs (j : Int) = some v := by
  have hj : j < xs.length := (List.getElem?_eq_some_iff.mp h).1
  have e : ixN xs.length (j : Int) = some j := by
    unfold ixN
    rw [if_pos (by omega), if_pos (by omega)]; simp
  unfold atI; rw [e]; exact h
/-! ### what may be subscripted -/
/-- what stands as an index of a plain subscript -/
def PlainIx (b : Expr) : Prop := ∀ o i, subscripted b false o i = operate [o, i] (getItem o i)
/-- a subscript by values -/
def IxR (X : Cx) (r : R2) : Prop :=
  ∀ (value slice : Expr) (pins : List (Addr × Obj)) (s : Shared) (σ : St) (H : Hp) (x y : V) (v u : Value) (Q : VK), Inv X pins σ H s → RelV x v → RelV y u → r x y H Q →
    subscripted slice false v u = operate [v, u] (getItem v u) → wpAny (model X.prog X.w) X.A (subscriptTail value slice v u) (EP X pins σ Q) X.xe s
/-- a call of a builtin's method by values: the receiver, the arguments -/
def MtR (X : Cx) (id : String) (r : V → List V → Hp → VK → Prop) : Prop :=
  ∀ (pins : List (Addr × Obj)) (s : Shared) (σ : St) (H : Hp) (x : V) (xs : List V) (v : Value) (us : List Value) (Q : VK), Inv X pins σ H s → RelV x v → Vals xs us → r x xs H Q →
    wpAny (model X.prog X.w) X.A (call (.builtin id) (v :: us)) (EP X pins σ Q) X.xe s
section
variable {X : Cx} {a b : Expr} {ta tb : TE} {pos : Pos}
/-- a[b] -/
theorem pe_ix {r : R2} (hr : IxR X r) (ha : PE X a ta) (hb : PE X b tb) (hs : PlainIx b) : PE X (.Subscript a b pos) (tOp r ta tb) := by
  intro pins s σ H Q I h
  exact Subscript_ (binT ha hb I h fun v u s2 x y H2 I2 rx ry q => hr a b pins s2 σ H2 x y v u Q I2 rx ry q (hs _ _))

def hIxL (K : PySem.W.Frag) (x y : V) (H : Hp) (v : V) : Prop := ∃ p xs i, x = .ref p ∧ y = .int i ∧ SqL K H p xs ∧ atI xs i = some v
def rIxL (K : PySem.W.Frag) : R2 := fun x y H Q => ∃ v, hIxL K x y H v ∧ Q v H
def hIxT (K : PySem.W.Frag) (x y : V) (H : Hp) (v : V) : Prop := ∃ p xs i, x = .ref p ∧ y = .int i ∧ SqT K H p xs ∧ atI xs i = some v
def rIxT (K : PySem.W.Frag) : R2 := fun x y H Q => ∃ v, hIxT K x y H v ∧ Q v H
theorem ix_list : IxR X (rIxL X.K) := by
  intro value slice pins s σ H x y v u Q I rx ry h hs
  obtain ⟨z, ⟨p, xs, i, rfl, rfl, hq, he⟩, q⟩ := h
  cases rx
  obtain ⟨t, rfl⟩ := ry
  obtain ⟨its, r, pl, hz⟩ := I.list hq
  obtain ⟨j, h1, h2, h3, h4, h5⟩ := atI_get he
  obtain ⟨w, ew, rw'⟩ := r.get h2
  have hl := r.length
  have hn := line63
  have fin : EP X pins σ Q w s := ⟨z, H, I, rw', q⟩
  by_cases h0 : 0 ≤ i
  · have hj : i.toNat = j := by
      rw [seqIndex_of h0 h5] at h1
      exact Option.some.inj h1
    exact item_listR pl.isList h0 (by omega) (by rw [hj]; simpa using ew) fin hs
  · have hj : (i + (its.toArray.size : Int)).toNat = j := by
      rw [seqIndex_neg (by omega) h4] at h1
      rw [List.size_toArray, ← hl]
      exact Option.some.inj h1
    exact subscriptTail_builtinR (x := w) pl.isList.typeIs slot_list_getitem.lookup
      (wpAny_getItem_list_neg (Q := fun r s' => r = w ∧ EP X pins σ Q r s') pl.isList (by omega) (by rw [List.size_toArray] <;> omega) (by omega) (by rw [hj]; simpa using ew) ⟨rfl, fin⟩) hs
theorem ix_tup : IxR X (rIxT X.K) := by
  intro value slice pins s σ H x y v u Q I rx ry h hs
  obtain ⟨z, ⟨p, xs, i, rfl, rfl, hq, he⟩, q⟩ := h
  cases rx
  obtain ⟨t, rfl⟩ := ry
  obtain ⟨its, r, pl, hz⟩ := I.tuple hq
  obtain ⟨j, h1, h2, h3, h4, h5⟩ := atI_get he
  obtain ⟨w, ew, rw'⟩ := r.get h2
  have hl := r.length
  have hn := line63
  have fin : EP X pins σ Q w s := ⟨z, H, I, rw', q⟩
  exact subscriptTail_builtinR (x := w) pl.typeIs slot_tuple_getitem.lookup
    (getItem_tuple (j := j) (Q := fun r s' => r = w ∧ EP X pins σ Q r s') pl (by omega) (by omega) (by rw [List.size_toArray, ← hl]; exact h1) (by simpa using ew) ⟨rfl, fin⟩) hs
/-! ### xs[i] = v, any sign -/
/-- the list's object behind a store -/
theorem mapSeq_set (its : List Value) (n j : Nat) (u : Value) : Obj.mapSeq (·.setIfInBounds j u) { cls := .type "list", data := .seq its.toArray n } = { cls := .type "list", data := .seq (its.set j u).toArray n } := by
  simp [Obj.mapSeq]
theorem Inv.lst {pins : List (Addr × Obj)} {σ : St} {H : Hp} {s : Shared} {p : Addr} {xs : List V} (I : Inv X pins σ H s) (h : H p = some (.lst xs)) :
    ∃ (its : List Value) (n : Nat), Vals xs its ∧ s.heap.get? p = some { cls := .type "list", data := .seq its.toArray n } ∧ xs.length ≤ sizeLine := by
  obtain ⟨z, its, n, r, e⟩ := I.hok p _ h
  exact ⟨its, n, r, e, z⟩
/-- the list at p is written by an update of its object -/
theorem Inv.lstUpd {pins : List (Addr × Obj)} {σ : St} {H : Hp} {s : Shared} {p : Addr} {xs ys : List V} {its its' : List Value} {n n' : Nat} {f : Obj → Obj} (I : Inv X pins σ H s) (h : H p = some (.lst xs))
    (ho : s.heap.get? p = some { cls := .type "list", data := .seq its.toArray n }) (hf : f { cls := .type "list", data := .seq its.toArray n } = { cls := .type "list", data := .seq its'.toArray n' }) (r : Vals ys its') (hz : ys.length ≤ sizeLine) (t : Nat) :
    Inv X pins σ (upd H p (.lst ys)) { s with heap := s.heap.update p f, toks := t } := by
  have e : (s.heap.update p f).get? p = some { cls := .type "list", data := .seq its'.toArray n' } := by
    rw [Heap.get?_update_self f ho (by rw [hf] <;> rfl), hf]
  refine I.write (x := p) (e := p) (by rw [h]; trivial) (.inl rfl) (fun b u hb q => (Heap.get?_update_other _ _ (Ne.symm hb)).trans q) ⟨_, e⟩ ?_
  exact ⟨hz, its', n', r, e⟩
def rSetL : V → V → V → Hp → (Hp → Prop) → Prop := fun o i v H Q => ∃ p xs k j, o = .ref p ∧ i = .int k ∧ H p = some (.lst xs) ∧ ixN xs.length k = some j ∧ Q (upd H p (.lst (xs.set j v)))
theorem set_list : PSet X rSetL := by
  intro pins s σ H o i v ov iv u Q I ro ri rv h
  obtain ⟨p, xs, k, j, rfl, rfl, hp, hj, q⟩ := h
  cases ro
  obtain ⟨t, rfl⟩ := ri
  obtain ⟨its, n, r, ho, hz⟩ := I.lst hp
  obtain ⟨h1, h2, h3, h4⟩ := ixN_seq hj
  have hl := r.length
  have hn := line63
  have I' : Inv X pins σ (upd H p (.lst (xs.set j v))) { s with heap := s.heap.update p (Obj.mapSeq (·.setIfInBounds j u)) } :=
    I.lstUpd hp ho (mapSeq_set its n j u) (r.set rv j) (by rw [List.length_set]; exact hz) s.toks
  by_cases h0 : 0 ≤ k
  · have hk : k.toNat = j := by
      rw [seqIndex_of h0 h4] at h1
      exact Option.some.inj h1
    exact PySem.W.ki_setAt ho h0 (by omega) (by rw [List.size_toArray, ← hl]; exact h4) (by rw [hk]; exact ⟨_, I', q⟩)
  · have hk : (k + (its.toArray.size : Int)).toNat = j := by
      rw [seqIndex_neg (by omega) h3] at h1
      rw [List.size_toArray, ← hl]
      exact Option.some.inj h1
    exact PySem.W.ki_setBack ho (by omega) (by rw [List.size_toArray, ← hl]; exact h3) (by omega) (by rw [hk]; exact ⟨_, I', q⟩)

/-! ### slices -/
/-! ### in, not in: flat items -/
def flatV : V → Bool
  | .non => true
  | .bl _ => true
  | .int _ => true
  | .str _ => true
  | _ => false
/-- == of flat values -/
def eqV : V → V → Bool
  | .non, .non => true
  | .bl a, .bl b => a == b
  | .bl a, .int b => (if a then 1 else 0) == b
  | .int a, .bl b => a == (if b then 1 else 0)
  | .int a, .int b => a == b
  | .str a, .str b => a == b
  | _, _ => false
theorem eqAt_V {A : Around} {s : Shared} {y x : V} {u v : Value} (ry : RelV y u) (rx : RelV x v) (fy : flatV y = true) (fx : flatV x = true) : SeqAt.EqAt A s u v (eqV y x) := by
  cases y with
  | non =>
    cases ry
    cases x with
    | non => cases rx; exact SeqAt.EqAt.same _
    | bl b => cases rx; exact SeqAt.EqAt.none_bool b
    | int b => obtain ⟨t, rfl⟩ := rx; exact SeqAt.EqAt.none_int b t
    | str b => obtain ⟨t, rfl⟩ := rx; exact SeqAt.EqAt.none_str b t
    | _ => exact absurd (show false = true from fx) Bool.false_ne_true
  | bl a =>
    cases ry
    cases x with
    | non => cases rx; exact SeqAt.EqAt.bool_none a
    | bl b => cases rx; exact SeqAt.EqAt.bool_bool a b
    | int b => obtain ⟨t, rfl⟩ := rx; exact SeqAt.EqAt.bool_int a b t
    | str b => obtain ⟨t, rfl⟩ := rx; exact SeqAt.EqAt.bool_str a b t
    | _ => exact absurd (show false = true from fx) Bool.false_ne_true
  | int a =>
    obtain ⟨t', rfl⟩ := ry
    cases x with
    | non => cases rx; exact SeqAt.EqAt.int_none a t'
    | bl b => cases rx; exact SeqAt.EqAt.int_bool a t' b
    | int b => obtain ⟨t, rfl⟩ := rx; exact SeqAt.EqAt.int_int a t' b t
    | str b => obtain ⟨t, rfl⟩ := rx; exact SeqAt.EqAt.int_str a t' b t
    | _ => exact absurd (show false = true from fx) Bool.false_ne_true
  | str a =>
    obtain ⟨t', rfl⟩ := ry
    cases x with
    | non => cases rx; exact SeqAt.EqAt.str_none a t'
    | bl b => cases rx; exact SeqAt.EqAt.str_bool a t' b
    | int b => obtain ⟨t, rfl⟩ := rx; exact SeqAt.EqAt.str_int a t' b t
    | str b => obtain ⟨t, rfl⟩ := rx; exact SeqAt.EqAt.str_str a t' b t
    | _ => exact absurd (show false = true from fx) Bool.false_ne_true
  | _ => exact absurd (show false = true from fy) Bool.false_ne_true
/-! ### len, list(x), tuple(x) of any list or tuple that is read -/
theorem call_len_seq : CallR X (.builtin "len") (fun xs H Q => ∃ p ys, xs = [.ref p] ∧ (SqL X.K H p ys ∨ SqT X.K H p ys) ∧ Q (.int ys.length) H) := by
  intro pins s σ H xs us Q I r h
  obtain ⟨p, ys, rfl, hq, q⟩ := h
  obtain ⟨u, rfl, rx⟩ := vals1 r
  cases rx
  have hn := line63
  rcases hq with hq | hq
  · obtain ⟨its, r', pl, hz⟩ := I.list hq
    have hlen := r'.length
    exact Calls.call_len_list pl.isList (by simp only [List.size_toArray] <;> omega) ⟨.int ys.length, H, I.tok _, ⟨s.toks + 1, by rw [List.size_toArray, hlen]⟩, q⟩
  · obtain ⟨its, r', pl, hz⟩ := I.tuple hq
    have hlen := r'.length
    exact len_tuple pl (by simp only [List.size_toArray] <;> omega) ⟨.int ys.length, H, I.tok _, ⟨s.toks + 1, by rw [List.size_toArray, hlen]⟩, q⟩
theorem call_list_of : CallR X (.type "list") (fun xs H Q => ∃ p ys, xs = [.ref p] ∧ (SqL X.K H p ys ∨ SqT X.K H p ys) ∧ ∀ l, H l = none → Q (.ref l) (upd H l (.lst ys))) := by
  intro pins s σ H xs us Q I r h
  obtain ⟨p, ys, rfl, hq, q⟩ := h
  obtain ⟨u, rfl, rx⟩ := vals1 r
  cases rx
  have fin : ∀ (its : List Value), Vals ys its → ys.length ≤ sizeLine → ∀ (h' : Heap) (c' : Nat), (∀ b o', s.heap.get? b = some o' → h'.get? b = some o') →
      h'.get? s.heap.objs.size = some { cls := .type "list", dict := none, data := .seq its.toArray c', slots := #[] } → EP X pins σ Q (.ref s.heap.objs.size) { s with heap := h' } := fun its r' hz h' c' kp e =>
    ⟨.ref s.heap.objs.size, _, I.laid (t' := s.toks) kp (Nat.le_refl _) (show ObjOk X.prog X.w _ h' _ (.lst ys) from ⟨hz, its, c', r', e⟩), rfl, q _ (I.hok.fresh (Nat.le_refl _))⟩
  rcases hq with hq | hq
  · obtain ⟨its, r', pl, hz⟩ := I.list hq
    have hlen := r'.length
    obtain ⟨o, ho, hc, n, hd⟩ := pl.isList
    exact call_list_seq p (.inl rfl) ho hc hd (fun h' c' kp e => fin its r' hz h' c' kp e) (by simp only [List.size_toArray] <;> omega)
  · obtain ⟨its, r', pl, hz⟩ := I.tuple hq
    have hlen := r'.length
    obtain ⟨o, ho, hc, n, hd⟩ := pl
    exact call_list_seq p (.inr rfl) ho hc hd (fun h' c' kp e => fin its r' hz h' c' kp e) (by simp only [List.size_toArray] <;> omega)
theorem call_tuple_of : CallR X (.type "tuple") (fun xs H Q => ∃ p ys, xs = [.ref p] ∧ ((SqL X.K H p ys ∧ ∀ l, H l = none → Q (.ref l) (upd H l (.tup ys))) ∨ (SqT X.K H p ys ∧ Q (.ref p) H))) := by
  intro pins s σ H xs us Q I r h
  obtain ⟨p, ys, rfl, h⟩ := h
  obtain ⟨u, rfl, rx⟩ := vals1 r
  cases rx
  rcases h with ⟨hq, q⟩ | ⟨hq, q⟩
  · obtain ⟨its, r', pl, hz⟩ := I.list hq
    have hlen := r'.length
    refine call_tuple_list pl.isList (fun h' kp => ?_) (by simp only [List.size_toArray] <;> omega)
    have I1 : Inv X pins σ H { s with heap := h' } := I.kept (t' := s.toks) kp
    have I2 : Inv X pins σ (upd H h'.objs.size (.tup ys)) { s with heap := h'.push { cls := .type "tuple", data := .seq its.toArray } } :=
      I1.laid (t' := s.toks) (fun b o e => Heap.get?_push_of_some _ e) (Nat.le_refl _) (show ObjOk X.prog X.w _ _ _ (.tup ys) from ⟨hz, its, r', IsTupN.new _ _⟩)
    exact ⟨.ref h'.objs.size, _, I2, rfl, q _ (I1.hok.fresh (Nat.le_refl _))⟩
  · obtain ⟨its, r', pl, hz⟩ := I.tuple hq
    exact call_tuple_same pl ⟨.ref p, H, I, rfl, q⟩

/-! ### the call of a builtin's method: o.m(..) -/
/-- the value is of that builtin type -/
def tyV (K : PySem.W.Frag) (T : String) (x : V) (H : Hp) : Prop := match x with
  | .str _ => T = "str"
  | .int _ => T = "int"
  | .ref p => (T = "list" ∧ ∃ xs, SqL K H p xs) ∨ (T = "tuple" ∧ ∃ o, K.lookup p = some o ∧ o.cls = .type "tuple" ∧ o.dict = none) ∨
      (T = "dict" ∧ ((∃ kvs, H p = some (.dK kvs)) ∨ ∃ kvs, H p = some (.dT kvs))) ∨ (T = "set" ∧ ∃ S n, H p = some (.set S n))
  | _ => False
theorem tyV_is {pins : List (Addr × Obj)} {σ : St} {H : Hp} {s : Shared} {T : String} {x : V} {v : Value} (I : Inv X pins σ H s) (r : RelV x v) (ty : tyV X.K T x H) :
    s.TypeIs v T ∧ ∀ a, v = .ref a → ∃ ob, s.heap.get? a = some ob ∧ ob.dict = none := by
  cases x with
  | str z =>
    obtain ⟨t, rfl⟩ := r
    cases (show T = "str" from ty)
    exact ⟨typeIs_str s z t, fun _ e => nomatch e⟩
  | int i =>
    obtain ⟨t, rfl⟩ := r
    cases (show T = "int" from ty)
    exact ⟨typeIs_int s i t, fun _ e => nomatch e⟩
  | ref p =>
    cases r
    rcases ty with ⟨rfl, xs, hq⟩ | ⟨rfl, o, hk, hc, hd⟩ | ⟨rfl, hk⟩ | ⟨rfl, S, n, hk⟩
    · obtain ⟨its, _, pl, _⟩ := I.list hq
      refine ⟨pl.isList.typeIs, fun a e => ?_⟩
      cases e
      obtain ⟨o, n, e, c, hd, _⟩ := pl
      exact ⟨o, e, hd⟩
    · refine ⟨⟨o, I.kIn p o hk, hc⟩, fun a e => ?_⟩
      cases e
      exact ⟨o, I.kIn _ o hk, hd⟩
    · have z : ∃ o, s.heap.get? p = some o ∧ o.ExactDict := by
        rcases hk with ⟨kvs, hk⟩ | ⟨kvs, hk⟩
        · obtain ⟨_, _, _, _, o, _, _, e, ex, _⟩ := I.hok p _ hk
          exact ⟨o, e, ex⟩
        · obtain ⟨_, _, _, _, o, _, _, e, ex, _⟩ := I.hok p _ hk
          exact ⟨o, e, ex⟩
      obtain ⟨o, e, ex⟩ := z
      refine ⟨⟨o, e, ex.1⟩, fun a e2 => ?_⟩
      cases e2
      exact ⟨o, e, ex.2.1⟩
    · obtain ⟨o, _, _, _, e, ex, _⟩ := I.hok p _ hk
      refine ⟨⟨o, e, ex.1⟩, fun a e2 => ?_⟩
      cases e2
      exact ⟨o, e, ex.2.1⟩
  | _ => exact False.elim ty
def tBM (K : PySem.W.Frag) (T : String) (r : V → List V → Hp → VK → Prop) (to : TE) (t : TA) : TE := fun σ H Q => to σ H fun x H1 => tyV K T x H1 ∧ t σ H1 fun xs H2 => r x xs H2 Q
variable {o e : Expr} {es : List Expr} {to : TE} {t : TA} {name : Str} {apos cpos : Pos} {T id : String} {r : V → List V → Hp → VK → Prop}
theorem pe_bm (pa : PlainAttrs T) (slot : Slot T name id) (hty : typeOf (.builtin id) = pure (.type "method_descriptor")) (hm : MtR X id r) (ho : PE X o to) (ha : PA X (e :: es) t)
    (hbase : attributeBase o name X.env (eval o X.env) = eval o X.env := by rfl)
    (hfew : ((backTo cpos (starEach (e :: es) X.env)).all (fun x => !x.1) && (backToKw cpos (keywordEach [] X.env)).all (fun x => x.1.isSome)
      && decide ((e :: es).length + ([] : List Keyword).length + (if ([] : List Keyword).isEmpty then 0 else 1) < 30)) = true := by rfl)
    (hline : (apos.endLine == cpos.line) = true := by rfl) (hs : starEach (e :: es) X.env = (false, eval e X.env) :: starEach es X.env := by rfl) (hplain : (backTo cpos (starEach es X.env)).any (·.1) = false := by rfl) :
    PE X (.Call (.Attribute o name apos) (e :: es) [] cpos) (tBM X.K T r to t) := by
  intro pins s σ H Q I h
  refine wpAny_Call_method_late hbase hfew hline rfl (thn (ho pins s σ H _ I h) fun v s1 hz0 => ?_)
  obtain ⟨x, H1, I1, r1, ty, q1⟩ := hz0
  obtain ⟨h1, h2⟩ := tyV_is I1 r1 ty
  refine ⟨T, id, pa, slot, hty, h1, h2, ?_⟩
  have hA := ha cpos pins s1 σ H1 _ I1 q1
  rw [hs] at hA ⊢
  refine Calls.callWith_builtin (by show (false || (backTo cpos (starEach es X.env)).any (·.1)) = false; rw [hplain] <;> rfl) (Calls.evalArgs_plain ?_)
  exact thn hA fun us s2 ⟨vs, H2, I2, r2, q2⟩ => hm pins s2 σ H2 x vs v us Q I2 r1 r2 q2
/- xs.append(e), list.index on a module's tuple .. are MtR facts of 06m -/
end
end L2

namespace L2
open PySem PySem.Spec PyProof.Rows

def MtM (X : Cx) (id : String) (r : V → List V → Hp → VK → Prop) : Prop :=
  ∀ (pins : List (Addr × Obj)) (s : Shared) (σ : St) (H : Hp) (x : V) (xs : List V) (v : Value) (us : List Value) (Q : VK), Inv X pins σ H s → RelV x v → Vals xs us → r x xs H Q →
    wpAny (model X.prog X.w) X.A (call (.builtin id) (v :: us)) (EP X pins σ Q) X.xe s

/-! ### lists of values -/
theorem Vals.one : ∀ {x : V} {us : List Value}, Vals [x] us → ∃ u, us = [u] ∧ RelV x u
  | _, _, .cons r .nil => ⟨_, rfl, r⟩
section
variable {X : Cx} {pins : List (Addr × Obj)} {σ : St} {H : Hp} {s : Shared} {l b : Addr} {xs ys zs : List V}

/-! ### the two steps: a tracked list is rewritten, a new list is laid -/
theorem Inv.lset {its its' : List Value} {n : Nat} {f : Array Value → Array Value} {t' : Nat} (I : Inv X pins σ H s) (hH : H l = some (.lst xs))
    (e : s.heap.get? l = some { cls := .type "list", data := .seq its.toArray n }) (hf : f its.toArray = its'.toArray) (hv : Vals ys its') (hz : ys.length ≤ sizeLine) :
    Inv X pins σ (upd H l (.lst ys)) { s with heap := s.heap.update l (Obj.mapSeq f), toks := t' } := by
  have q := PySem.IsL.update e f
  rw [hf] at q
  refine I.write (x := l) (e := l) (by rw [hH]; exact trivial) (.inl rfl) (fun b' u hb hu => (Heap.get?_update_other s.heap (Obj.mapSeq f) (Ne.symm hb)).trans hu) ⟨_, q⟩ ?_
  exact ⟨hz, its', _, hv, q⟩
theorem Inv.lnew {its : List Value} {t' : Nat} (I : Inv X pins σ H s) (hv : Vals ys its) (hz : ys.length ≤ sizeLine) :
    Inv X pins σ (upd H s.heap.objs.size (.lst ys)) { s with heap := s.heap.push { cls := .type "list", data := .seq its.toArray }, toks := t' } :=
  I.laid (fun _ _ q => Heap.get?_push_of_some _ q) (Nat.le_refl _) ⟨hz, its, 0, hv, Heap.get?_push_size _ rfl⟩
theorem Inv.fresh (I : Inv X pins σ H s) : H s.heap.objs.size = none := I.hok.fresh (Nat.le_refl _)
theorem Inv.lstM (I : Inv X pins σ H s) (hH : H l = some (.lst xs)) : xs.length ≤ sizeLine ∧ ∃ (its : List Value) (n : Nat), Vals xs its ∧ xs.length = its.length ∧ s.heap.get? l = some { cls := .type "list", data := .seq its.toArray n } := by
  obtain ⟨z, its, n, r, e⟩ := I.hok l _ hH
  exact ⟨z, its, n, r, r.length, e⟩

end

section
variable {X : Cx}

/-! ### methods -/
def rAppend : V → List V → Hp → VK → Prop := fun x vs H Q => ∃ l xs y, x = .ref l ∧ vs = [y] ∧ H l = some (.lst xs) ∧ xs.length < sizeLine ∧ Q .non (upd H l (.lst (xs ++ [y])))
theorem mt_append : MtM X "list.append" rAppend := by
  intro pins s σ H x vs v us Q I rx rv h
  obtain ⟨l, xs, y, rfl, rfl, hH, hz, q⟩ := h
  cases rx
  obtain ⟨u, rfl, ru⟩ := rv.one
  obtain ⟨z, its, n, r, hl, e⟩ := I.lstM hH
  refine call_meets F.slot_list_append ⟨_, e, rfl⟩ F.entry_list_append (F.args_list_append_2 _ _) (PySem.list_append l its.toArray n u (by rw [List.size_toArray]; omega)) ⟨e, ?_⟩
  refine ⟨.non, _, I.lset (its' := its ++ [u]) hH e (by simp) (r.append (.cons ru .nil)) ?_, rfl, q⟩
  rw [List.length_append, List.length_singleton]
  omega

/-! ### list + list, list += list, list * int -/
def rCat : R2 := fun x y H Q => ∃ l b xs zs, x = .ref l ∧ y = .ref b ∧ H l = some (.lst xs) ∧ H b = some (.lst zs) ∧ xs.length + zs.length ≤ sizeLine ∧ ∀ p, H p = none → Q (.ref p) (upd H p (.lst (xs ++ zs)))
theorem op_cat : OpR X (binaryOp .Add) rCat := by
  intro pins s σ H x y v u Q I rx ry h
  obtain ⟨l, b, xs, zs, rfl, rfl, hH, hB, hz, q⟩ := h
  cases rx
  cases ry
  obtain ⟨z, its, n, r, hl, e⟩ := I.lstM hH
  obtain ⟨z2, its2, n2, r2, hl2, e2⟩ := I.lstM hB
  refine PySem.P.add_list e e2 ?_ (by rw [List.size_toArray, List.size_toArray]; omega)
  have ea : its.toArray ++ its2.toArray = (its ++ its2).toArray := by simp
  rw [ea]
  exact ⟨.ref _, _, I.lnew (t' := s.toks) (r.append r2) (by rw [List.length_append]; omega), rfl, q _ I.fresh⟩
/-! ### del xs[i] -/
end

/-! ### xs[a:b] = ys -/
section
variable {prog : Program} {w : World} {A : Around} {E : Value → Shared → Prop} {s : Shared}
end

section
variable {X : Cx}
end
end L2

namespace Att
open PySem PySem.W PySem.Calls PyProof.Rows

/-! ### the script -/
theorem ints_of_wellAll {P : Params} {h : Heap} : ∀ (ns : List Int) (vs : List Value), WellAll P h vs (ns.map WData.int) → IntsAre vs ns := by
  intro ns
  induction ns with
  | nil =>
    intro vs w
    rw [List.map_nil] at w
    cases w
    exact .nil
  | cons n ns ih =>
    intro vs w
    rw [List.map_cons] at w
    cases w with
    | cons a b =>
      cases a
      exact .cons _ _ (ih _ b)

theorem script_of {l : OpenLaw} {n : Nat} (hn : l.most = some n) {P : Params} {h : Heap} {args : List WData} {vals : List Value}
    (hpre : l.row.toRowW.claim.pre args = true) (hwl : WellAll P h vals args) :
    ∃ a vs ns, vals = [Value.ref a] ∧ args = [WData.list (ns.map WData.int)] ∧ h.get? a = some { cls := .type "list", data := .seq vs.toArray } ∧ IntsAre vs ns ∧ ns.length ≤ n := by
  have hsh : WShape.hasAll [] args [.list .int] = true := (pre_splitW hpre).1
  have hc : l.pre.holds [] { args := args } = true := (pre_splitW hpre).2
  obtain ⟨d, r, rfl, h1, h2⟩ := hasAllW_cons hsh
  obtain rfl := hasAllW_nil h2
  obtain ⟨xs, rfl, h3⟩ := hasW_list h1
  obtain ⟨ns, rfl⟩ := items_int h3
  have hlen : ns.length ≤ n := by
    unfold OpenLaw.pre at hc
    have h4 : (WTm.not (.lt (.lit (.int (n : Int))) (.len (.arg 0)))).holds [] { args := [.list (ns.map .int)] } = true := by
      have h4 := (holds_andW hc).1
      rw [hn] at h4
      exact h4
    have h5 := condW_of h4 (w_not (w_lt w_lit (w_len_list (w_arg rfl))))
    rw [List.length_map] at h5
    refine Nat.le_of_not_lt fun q => ?_
    have q' : (n : Int) < ((ns.length : Nat) : Int) := by omega
    first
      | (rw [decide_eq_true q'] at h5; exact absurd h5 (by decide))
      | (simp at h5; omega)
  cases hwl with
  | cons w1 w2 =>
    cases w2
    cases w1 with
    | list ho hall => exact ⟨_, _, ns, rfl, rfl, ho, ints_of_wellAll ns _ hall, hlen⟩

theorem post_true (l : OpenLaw) (args : List WData) : l.row.toRowW.claim.post args (.bool true) args = true :=
  postW_of (r := l.row.toRowW) (X := (true == true))
    (show WShape.has [] (.bool true) .bool = true by first | rfl | decide | simp [WShape.has, WShape.arms, WShape.armsAll])
    (show (WTm.eq .res (.lit (.bool true))).value [] { args := args, res := some (.bool true), after := args } = some (.bool (true == true)) from w_eq_bool (w_res rfl) w_lit) rfl

/-! ### the attachment: holds_open's last premise (the goal 'hc' behind k_head) from a wpAny of the law's body -/
/-- the same from a codeAny of the CALL (for a layer whose function contracts speak of calls) -/
theorem attach_call {l : OpenLaw} {n : Nat} {q : Program} {loose : List Str} {XP : (Str → Option Value) → Heap → Prop} {YP : World → Heap → Prop} {d : DefRec}
    (hn : l.most = some n) (hdf : d.params.defaults = [])
    (call : ∀ (w : World) (s₀ s₁ : Shared) (mg mb : Str → Option Value) (fa : Addr) (o : Obj) (pm cd doc : Value) (a : Addr) (vs : List Value) (ns : List Int),
      Ground q loose [] XP w s₀ mg mb s₁.heap → YP w s₁.heap →
      s₁.heap.get? fa = some o → o.data = .func (docDef d.name d.params d.body d.scope pm cd doc) → s₁.heap.CodeRec cd d.name → mg d.name = some (.ref fa) →
      s₁.heap.get? a = some { cls := .type "list", data := .seq vs.toArray } → IntsAre vs ns → ns.length ≤ n → s₁.gens = #[] →
      codeAny (model l.prog w) callerA (.call (.ref fa) ⟨[.ref a], []⟩) (fun r s' => r = .ok (.ret (.bool true)) ∧ OldK s₁.heap s'.heap ∧ s'.os = s₁.os ∧ AllBare s'.gens) s₁) :
    WalkO q loose XP YP l.row.toRowW d [] (fun f vs => PySem.call f vs) := by
  intro w s₀ s₁ mg mb G Y fa o pm cd doc dV kV ho hd hcd hD hmg hg args vals as hpre hlay hrd hwl hlo
  obtain rfl : dV = .none := Dflts.none hD hdf
  obtain rfl : kV = .none := Dflts.noKw hD
  obtain ⟨a, vs, ns, rfl, rfl, hobj, hints, hlen⟩ := script_of hn hpre hwl
  refine enter_call (codeAny_mono (call w s₀ s₁ mg mb fa o pm cd doc a vs ns G Y ho (fd_plain hd) hcd hmg hobj hints hlen hg) fun r s' hq => ?_)
  obtain ⟨rfl, h2, h3, h4⟩ := hq
  exact ⟨.inl ⟨.bool true, .bool true, [], rfl, fun _ => rfl, .bool true, post_true l _, fun _ => ⟨List.Pairwise.nil, fun _ hm => (nomatch hm)⟩⟩, h2, h3, h4⟩

/-! ### rules over ANY heap (no ledger) from facts about the written part K: the library's own take a ledger (News) for what they write -/
section
variable {prog : Program} {w : World} {A : Around} {E : Value → Shared → Prop} {s : Shared} {K : Frag}

/-! the whole heap as the ledger: makes every rule that writes through a ledger a rule over any heap -/
def ledger (h : Heap) (L d : Addr) : List (Addr × Obj) := (List.range h.objs.size).filterMap fun a => if a = L ∨ a = d then none else (h.get? a).map fun o => (a, o)
end
end Att

namespace L2
open PySem PySem.Spec PyProof.Rows

theorem vals_ints : ∀ {vs : List Value} {ns : List Int}, IntsAre vs ns → Vals (ns.map V.int) vs
  | _, _, .nil => .nil
  | _, _, .cons n t h => .cons ⟨t, rfl⟩ (vals_ints h)

/-- nothing is tracked but the script, known to the object (or it is an object of the module) -/
def Only (H : Hp) : Prop := ∀ b, H b = none ∨ ∃ o xs, H b = some (.frz o (.lst xs))

/-- THE HEAD: the law's promise, at the heap behind the top. F, the promise of the law's def, may use that base is part of the heap (so K.In base, base.Ns mainGlobals mg stand in Mod) -/
theorem law_call {P : Program} {w : World} {K : PySem.W.Frag} {mg mb : Str → Option Value} {CX : CXT} {k : Nat} {fa a : Addr} {fd : FuncData} {x : Str} {sp : Sp} {s₁ : Shared} {vs : List Value} {ns : List Int}
    (KX : K.In s₁.heap) (hns : s₁.heap.Ns mainGlobals mg) (hb : s₁.heap.Ns builtinsNs mb) (hbb : ∀ x : Str, x ≠ "__name__" → mb x = bootBuiltins x) (hlim : s₁.heap.NoLimit) (hg : s₁.gens = #[])
    (ha : s₁.heap.get? a = some { cls := .type "list", data := .seq vs.toArray }) (hi : IntsAre vs ns) (hl : ns.length ≤ sizeLine) (hr : Room k callerA)
    (F : ∀ base : Heap, K.In base → base.Ns mainGlobals mg → FnOk P w K mg base CX k fa fd [x] sp) (hbind : ∀ (s : Shared) (u : Value), BindsTo s fd ⟨[u], []⟩ [(x, u)])
    (hsp : ∀ H : Hp, Only H → SqL K H a (ns.map V.int) → sp [.ref a] H (fun v _ => v = .bl true) fun _ _ _ => False)
    (hCX : ∀ H e s', CX [] H s₁ (fun _ _ _ => False) e s' → False) :
    codeAny (model P w) callerA (.call (.ref fa) ⟨[.ref a], []⟩) (fun r s' => r = .ok (.ret (.bool true)) ∧ OldK s₁.heap s'.heap ∧ s'.os = s₁.os ∧ AllBare s'.gens) s₁ := by
  have rv := vals_ints hi
  have lenV := hi.length
  -- from an abstract heap in which nothing but the script may be tracked
  have core : ∀ H : Hp, Only H → SqL K H a (ns.map V.int) → HOk P w H s₁.heap → (∀ b, H b ≠ none → b = a) → (H a ≠ none → K.lookup a = none) →
      codeAny (model P w) callerA (.call (.ref fa) ⟨[.ref a], []⟩) (fun r s' => r = .ok (.ret (.bool true)) ∧ OldK s₁.heap s'.heap ∧ s'.os = s₁.os ∧ AllBare s'.gens) s₁ := by
    intro H hO hS hok hA hK
    have base_of : ∀ {b : Addr} {o : Obj}, s₁.heap.get? b = some o → H b = none → (hidT s₁.heap H).get? b = some o := fun e n => hidT_get e n
    have noA : ∀ {b : Addr} {o : Obj} {es : Array DictEntry} {ep : Nat}, s₁.heap.get? b = some o → o.data = .dict es ep → H b = none := fun {b o es ep} e d => by
      cases q : H b with
      | none => rfl
      | some u =>
        have e' : b = a := hA b (by rw [q]; simp)
        subst e'
        rw [ha] at e; cases e
        have d' : Data.seq vs.toArray _ = Data.dict es ep := d
        cases d'
    have nsK : ∀ {b : Addr} {m : Str → Option Value}, s₁.heap.Ns b m → (hidT s₁.heap H).Ns b m := fun {b m} ⟨o, es, ep, e, d, r⟩ => ⟨o, es, ep, base_of e (noA e d), d, r⟩
    have hKb : K.In (hidT s₁.heap H) := fun b o e => base_of (KX b o e) (by
      cases q : H b with
      | none => rfl
      | some u =>
        have e' : b = a := hA b (by rw [q]; simp)
        subst e'
        rw [hK (by rw [q]; simp)] at e; cases e)
    have hM : Mod K mg (hidT s₁.heap H) := ⟨hKb, nsK hns, ⟨mb, nsK hb, hbb⟩, let ⟨mc, h1, h2⟩ := hlim; ⟨mc, nsK h1, h2⟩⟩
    have e0 : Env0 P w K mg (hidT s₁.heap H) callerA [] s₁ H := ⟨rfl, hM, fun b o e => of_hidT e, Nat.le_of_eq (hidT_size _ _), trivial, fun b hb => absurd (show b ∈ ([] : List Addr) from hb) (by simp), hok, .of_eq hg⟩
    refine codeAny_mono ((F _ hKb (nsK hns)).run callerA [] s₁ H ⟨[.ref a], []⟩ [.ref a] [.ref a] _ _ hr e0 (hbind s₁ (.ref a)) (.cons rfl .nil) (hsp H hO hS)) fun r s' h => ?_
    cases r with
    | error e => exact (hCX H e s' h).elim
    | ok fl =>
      cases fl with
      | next => exact False.elim h
      | brk => exact False.elim h
      | cont => exact False.elim h
      | ret u =>
        obtain ⟨v, H', os, bare, un, hok', r', q⟩ := h
        have q' : v = .bl true := q
        subst q'
        obtain rfl : u = Value.bool true := r'
        refine ⟨rfl, OldK.of_keep fun b o e => ?_, os, bare⟩
        cases q : H b with
        | none => exact un.keep b o e q (by intro z; exact absurd (show b ∈ ([] : List Addr) from z) (by simp)) (by simp)
        | some u =>
          rcases hO b with z | ⟨ob, xs, z⟩
          · rw [q] at z; cases z
          · have z2 := un.frzs b ob _ z
            obtain ⟨e1, _⟩ := hok b _ z
            obtain ⟨e2, _⟩ := hok' b _ z2
            rw [e] at e1; cases e1
            exact e2
  cases hk : K.lookup a with
  | some o =>
    -- the script is one of the module's own objects
    have e := KX a o hk
    rw [ha] at e
    cases e
    refine core (fun _ => none) (fun _ => .inl rfl) (.inr ⟨_, vs.toArray, _, hk, rfl, rfl, rfl, by rw [List.size_toArray, lenV]; exact hl, by simpa using rv⟩) (fun b u z => by have z' : (none : Option HO) = some u := z; cases z') (fun b z => absurd rfl z) fun z => absurd rfl z
  | none =>
    refine core (fun b => if b = a then some (.frz { cls := .type "list", data := .seq vs.toArray } (.lst (ns.map V.int))) else none) (fun b => ?_) (.inl (.inr ⟨{ cls := .type "list", data := .seq vs.toArray }, if_pos rfl⟩)) (fun b u z => ?_) (fun b z => ?_) fun _ => hk
    · by_cases hb : b = a
      · exact .inr ⟨_, _, if_pos hb⟩
      · exact .inl (if_neg hb)
    · by_cases hb : b = a
      · have z' := (if_pos hb).symm.trans z
        cases z'
        subst hb
        exact ⟨ha, by rw [List.length_map]; exact hl, vs, _, rv, ha⟩
      · have z' := (if_neg hb).symm.trans z
        cases z'
    · by_cases hb : b = a
      · exact hb
      · exact absurd (if_neg hb) z
end L2

namespace L2
open PySem PySem.Spec PyProof.Rows

abbrev KOf {K : PySem.W.Frag} {h : Heap} (_ : K.In h) : PySem.W.Frag := K

/-- the goal that k_head leaves (case hc), from the law's promise. F gives the function object fd (K's own) once, then the promise over every base -/
theorem walk_of {l : PySem.W.OpenLaw} {n k : Nat} {q : Program} {loose : List Str} {XP : (Str → Option Value) → Heap → Prop} {YP : World → Heap → Prop} {d : DefRec} {K : Params → PySem.W.Frag} {CX : World → CXT} {sp : World → Sp} {x : Str}
    (hn : l.most = some n) (hn2 : n ≤ sizeLine) (hdf : d.params.defaults = []) (hr : Room k callerA)
    (hY : ∀ (w : World) (h : Heap), YP w h → (K w.params).In h)
    (F : ∀ (w : World) (mg : Str → Option Value) (fa : Addr) (h : Heap), (K w.params).In h → h.Ns mainGlobals mg → mg d.name = some (.ref fa) →
      ∃ fd : FuncData, (∀ (s : Shared) (u : Value), BindsTo s fd ⟨[u], []⟩ [(x, u)]) ∧
        ∀ base : Heap, (K w.params).In base → base.Ns mainGlobals mg → FnOk l.prog w (K w.params) mg base (CX w) k fa fd [x] (sp w))
    (hsp : ∀ (w : World) (H : Hp) (a : Addr) (ns : List Int), ns.length ≤ n → Only H → SqL (K w.params) H a (ns.map V.int) → sp w [.ref a] H (fun v _ => v = .bl true) fun _ _ _ => False)
    (hCX : ∀ (w : World) (H : Hp) (s : Shared) (e : Value) (s' : Shared), CX w [] H s (fun _ _ _ => False) e s' → False) :
    PySem.W.WalkO q loose XP YP l.row.toRowW d [] (fun f vs => PySem.call f vs) := by
  refine Att.attach_call hn hdf fun w s₀ s₁ mg mb fa o pm cd doc a vs ns G Y ho hd hcd hmg hobj hints hlen hg => ?_
  have KX := hY w _ Y
  obtain ⟨fd, hb, hF⟩ := F w mg fa _ KX G.T.g hmg
  exact law_call KX G.T.g G.T.b G.T.builtins G.T.nolimit hg hobj hints (Nat.le_trans hlen hn2) hr hF hb (fun H hO hS => hsp w H a ns hlen hO hS) fun H e s' => hCX w H s₁ e s'
end L2

/- THE LAST THEOREM (shape; LID, My.* are yours):
   My.Adr: a structure of the addresses that your layer names (classes, functions); My.Txt K t: a structure (Prop) of the equations over K;
   My.txt_mk : {K} {implicit addresses ..} (e1 : nsIn K mainGlobals "law" = some (some (.ref f))) (e2 : K.lookup f = some ⟨oc, od, .func (fnOf "law" "law" params body scope dV kV doc pm an cdv ct), sl⟩) (e3 : codeIn K cdv "law" = true) .. : ∃ t, My.Txt K t

set_option maxRecDepth 100000 in
set_option maxHeartbeats 0 in
theorem PySem.Challenge.cw_LID_holds : PySem.Challenge.rw_LID.Holds := by
  w_on; o_law; k_head; (case hw => w_witness2)
  k_fill
  refine L2.walk_of (l := PySem.Challenge.rw_LID) (n := 63) (k := 40) (x := "script") (CX := fun w => ..) (sp := fun _ => My.sp_law) rfl (by decide) rfl ⟨rfl, by decide, by decide⟩ (fun w h Y => PySem.W.kIn_of Y) ?F ?S ?C
  case F =>
    intro w mg fa h KX G hmg
    have T : ∃ t, My.Txt (L2.KOf KX) t := by
      dsimp only [L2.KOf]                          -- K must stand as «<heap const> w.params» for k_is
      refine' My.txt_mk ?e1 ?e2 ?e3 ..
      (case e1 => PySem.W.k_is)                    -- in the order: a name -> its address -> its object -> its parts
      (case e2 => PySem.W.k_is)
      ..
    obtain ⟨t, T⟩ := T
    have e0 := hmg.symm.trans (PySem.W.mg_of KX G T.law)
    cases e0                                       -- fa is the law's own address
    exact ⟨_, fun s u => .of_eq rfl, fun base kb nb => My.law_fn T kb nb⟩     -- if «.of_eq rfl» comes too early: refine' ⟨_, ?b, fun base kb nb => My.law_fn T kb nb⟩; exact fun s u => .of_eq rfl
  case S => exact fun w H a ns hl hO hS => ..
  case C => exact ..
(the tactic k_is has no namespace: write k_is) -/

/-! SHORT WORDS over the layer: a def of the text, its body, what a loop and a test want. -/
namespace L2
open PySem PySem.Spec PyProof.Rows

/-! ### the text by places -/
def defArgs (s : Stmt) : Arguments := match s with
  | .FunctionDef _ a _ _ _ _ _ _ _ _ => a
  | _ => { posonlyargs := [], args := [], vararg := none, kwonlyargs := [], kw_defaults := [], kwarg := none, defaults := [] }
def defBody (s : Stmt) : List Stmt := match s with
  | .FunctionDef _ _ b _ _ _ _ _ _ _ => b
  | _ => []
def defScope (s : Stmt) : Scope := match s with
  | .FunctionDef _ _ _ _ _ _ sc _ _ _ => sc
  | _ => { kind := .function, names := [], isGenerator := false, isCoroutine := false }

/-! ### no exception leaves a def -/
abbrev CX0 : CXT := fun _ _ _ _ _ _ => False
abbrev E0 : XK := fun _ _ _ => False
theorem pass0 {X : Cx} : Passes CX0 X E0 := fun _ _ _ _ _ _ _ h => h.elim

/-! ### a def (or method) of the text as it stands behind the top -/
structure Fun (K : PySem.W.Frag) (x qual : Str) (st : Stmt) (f : Addr) (fd : FuncData) : Prop where
  ex : ∃ (oc : Value) (od : Option Addr) (kV doc pm : Value) (an : Option Addr) (cdv ct : Value) (osl : Array (Option Value)),
    fd = PySem.W.fnOf x qual (defArgs st) (defBody st) (defScope st) .none kV doc pm an cdv ct ∧ K.lookup f = some ⟨oc, od, .func fd, osl⟩ ∧ PySem.W.codeIn K cdv qual = true
  kp : PySem.W.keepIn K (.ref f) = true
section
variable {P : Program} {w : World} {K : PySem.W.Frag} {mg : Str → Option Value} {base : Heap}
/-- THE RULE for a def: its body as a term of rules, and the reading of that term -/
theorem Fun.ok {x qual : Str} {st : Stmt} {f : Addr} {fd : FuncData} {N ps : List Str} {k : Nat} {sp : Sp} (F : Fun K x qual st f fd) (S : FnScope N ps (defScope st)) (len : ∀ vs H Q E, sp vs H Q E → vs.length = ps.length)
    (hbody : ∀ (cdv : Value) (A : Around) (outer : List Env) (s : Shared) (H : Hp) (vs : List V) (Q : VK) (E : XK), Room k (A.deeper (envOfC qual (defScope st) s.heap.objs.size f cdv)) → sp vs H Q E →
      ∃ t, PSs (cxOf CX0 P w K mg base N qual (defScope st) f cdv A outer s H E).nox (defBody st) t ∧ t { nx := fun _ H' => Q .non H', rt := Q } (start N vs) H) : FnOk P w K mg base CX0 (k + 1) f fd ps sp := by
  obtain ⟨oc, od, kV, doc, pm, an, cdv, ct, osl, rfl, lk, hcd⟩ := F.ex
  refine fn_of lk hcd S len fun A outer s H vs Q E hr hsp => ?_
  obtain ⟨t, h, q⟩ := hbody cdv A outer s H vs Q E hr hsp
  exact ⟨t, h.nox, q⟩
/-- how its arguments bind (no defaults): h is «fun _ _ _ _ _ _ us hl => match us, hl with | [_, _], _ => rfl», one _ a parameter -/
theorem Fun.binds {x qual : Str} {st : Stmt} {f : Addr} {fd : FuncData} {ps : List Str} (F : Fun K x qual st f fd)
    (h : ∀ (kV doc pm : Value) (an : Option Addr) (cdv ct : Value) (us : List Value), us.length = ps.length → bindArgs (PySem.W.fnOf x qual (defArgs st) (defBody st) (defScope st) .none kV doc pm an cdv ct) ⟨us, []⟩ = pure (ps.zip us)) : Binds K fd ps [] := by
  obtain ⟨oc, od, kV, doc, pm, an, cdv, ct, osl, rfl, lk, hcd⟩ := F.ex
  exact .all (h kV doc pm an cdv ct)
theorem fun_mk {x qual : Str} {st : Stmt} {f : Addr} {oc : Value} {od an : Option Addr} {osl : Array (Option Value)} {kV doc pm cdv ct : Value} (l : K.lookup f = some ⟨oc, od, .func (PySem.W.fnOf x qual (defArgs st) (defBody st) (defScope st) .none kV doc pm an cdv ct), osl⟩)
    (c : PySem.W.codeIn K cdv qual = true) (k : PySem.W.keepIn K (.ref f) = true) : Fun K x qual st f (PySem.W.fnOf x qual (defArgs st) (defBody st) (defScope st) .none kV doc pm an cdv ct) := ⟨⟨oc, od, kV, doc, pm, an, cdv, ct, osl, rfl, l, c⟩, k⟩
end
/-! ### expressions in short: the name that stands in the i-th slot -/
section
variable {X : Cx}
theorem pv (i : Nat) {x : Str} {pos : Pos} (hN : X.N[i]? = some x := by rfl) (hv : Vis X.env.scope x := by first | exact Or.inl rfl | exact Or.inr (Or.inl rfl) | exact Or.inr (Or.inr rfl)) (hd : (x == ("__debug__" : Str)) = false := by decide)
    (hcd : (x == ("__classdict__" : Str)) = false := by decide) : PE X (.Name x pos) (tVar i) := pe_var hN hv hd hcd
end

/-! ### tests -/
theorem iteF {A B : Prop} (h : B) : if false = true then A else B := by
  rw [if_neg Bool.false_ne_true]
  exact h
theorem iteT {A B : Prop} (h : A) : if true = true then A else B := by
  rw [if_pos rfl]
  exact h
theorem ite2 {c A B : Prop} [Decidable c] (h1 : c → A) (h2 : ¬ c → B) : if c then A else B := by
  by_cases h : c
  · rw [if_pos h]
    exact h1 h
  · rw [if_neg h]
    exact h2 h
/-! ### heaps -/
/-- all that was tracked is as it was -/
def Same (H H' : Hp) : Prop := ∀ b o, H b = some o → H' b = some o
theorem Same.refl (H : Hp) : Same H H := fun _ _ h => h
theorem Same.trans {H H1 H2 : Hp} (a : Same H H1) (b : Same H1 H2) : Same H H2 := fun c o h => b c o (a c o h)
theorem Same.free {H H' : Hp} (e : Same H H') {l : Addr} (h : H' l = Option.none) : H l = Option.none := by
  cases q : H l with
  | none => rfl
  | some o =>
    rw [e l o q] at h
    cases h
theorem Same.seq {K : PySem.W.Frag} {H H' : Hp} {a : Addr} {xs : List V} (e : Same H H') (h : SqL K H a xs) : SqL K H' a xs := by
  rcases h with (h | ⟨o, h⟩) | h
  · exact .inl (.inl (e _ _ h))
  · exact .inl (.inr ⟨o, e _ _ h⟩)
  · exact .inr h

end L2

/-! MORE RULES over the hand layer: a comprehension with one clause, isinstance, all, is True, empty tuples and lists compared, // by a great number. -/
namespace L2
open PySem PySem.Spec PyProof.Rows

/-! ### numbers -/
section
variable {X : Cx}
theorem op_fdivB : OpR X (binaryOp .FloorDiv) (rI (fun _ j => 0 < j ∧ j.natAbs.log2 < 9000) fun i j => .int (i / j)) := opI fun i j _ _ _ _ _ hc q => by
  have e : i.fdiv j = i / j := Int.fdiv_eq_ediv_of_nonneg i (Int.le_of_lt hc.1)
  refine floordiv_int (by have := hc.1; omega) ?_ (.inl (PyProof.noPylong_of_log2 hc.2))
  rw [e]
  exact q

/-! ### is, with truths -/
/-! ### all of truths -/
theorem bools_of : ∀ {bs : List Bool} {us : List Value}, Vals (bs.map V.bl) us → LSm.BoolsAre us bs
  | [], _, .nil => .nil
  | b :: bs, _, .cons r t => by
    cases (show _ = Value.bool b from r)
    exact .cons b (bools_of t)
theorem call_all (hc : X.calm = true) : CallR X (.builtin "all") (fun xs H Q => ∃ (p : Addr) (bs : List Bool), xs = [.ref p] ∧ SqL X.K H p (bs.map V.bl) ∧ Q (.bl (bs.all id)) H) := by
  intro pins s σ H xs us Q I r h
  obtain ⟨p, bs, rfl, hq, q⟩ := h
  obtain ⟨u, rfl, ru⟩ := vals1 r
  cases (show u = Value.ref p from ru)
  obtain ⟨its, rv, pl, hz⟩ := I.list hq
  have hb := bools_of rv
  have hil : s.heap.IsList p its.toArray := pl.isList
  have plt : p < s.heap.objs.size := by obtain ⟨_, e, _⟩ := hil; exact Heap.lt_size e
  refine call_all_walk (wpAny_pyIter_list hil ⟨s.heap.objs.size, [s.heap.objs.size, p], [s.heap.objs.size], its.toArray.size, _, _, fun i => (bs[i]?).getD true, rfl,
    Walks.list (A := X.A.in1) (I.ok.hd hc) _ p (Nat.ne_of_lt plt) its.toArray, ⟨⟨_, Heap.get?_push_size _ rfl, rfl, rfl⟩, hil.push _⟩, ?_, ?_⟩)
  · intro i v s' Q' E' hP hT
    obtain ⟨b, e, rfl⟩ := hb.get i v (by simpa using hP)
    simp only [e, Option.getD_some] at hT
    exact wpAny_truthy_bool hT
  · intro h' tk hk
    have e2 : ((List.range its.toArray.size).all fun i => (bs[i]?).getD true) = bs.all id := by
      rw [List.size_toArray, hb.length]
      exact LSm.range_all bs
    rw [e2]
    exact ⟨.bl _, H, I.kept (LSm.kept_iter hk), rfl, q⟩

/-! ### an empty tuple, an empty list, on the right of == -/
/-! ### isinstance, by the value's own sort -/
def tyn (H : Hp) : V → Option String
  | .non => some "NoneType"
  | .bl _ => some "bool"
  | .int _ => some "int"
  | .str _ => some "str"
  | .ref a => match H a with
    | some (.lst _) => some "list"
    | some (.tup _) => some "tuple"
    | some (.dK _) => some "dict"
    | _ => none
  | _ => none
theorem TyOf.byName {K : PySem.W.Frag} {H : Hp} {v : V} {T : String} (h : tyn H v = some T) : TyOf K H v (.type T) := by
  cases v with
  | non => cases h; exact .non
  | bl b => cases h; exact .bl b
  | int i => cases h; exact .int i
  | str x => cases h; exact .str x
  | ref a =>
    simp only [tyn] at h
    cases e : H a with
    | none => rw [e] at h; cases h
    | some o =>
      rw [e] at h
      cases o <;> first | (cases h; first | exact .lst e | exact .tup e | exact .dK e) | cases h
  | _ => cases h
theorem kit_tuple (K : PySem.W.Frag) {T : String} (h : T ∈ ["NoneType", "bool", "int", "str", "list", "tuple", "dict"]) : PySem.W.kitOne K (.type T) (.type "tuple") = some (T == "tuple") := by
  simp only [List.mem_cons, List.not_mem_nil, or_false] at h
  rcases h with rfl | rfl | rfl | rfl | rfl | rfl | rfl <;> kernel_rfl
theorem kit_int (K : PySem.W.Frag) {T : String} (h : T ∈ ["NoneType", "bool", "int", "str", "list", "tuple", "dict"]) : PySem.W.kitOne K (.type T) (.type "int") = some (T == "int" || T == "bool") := by
  simp only [List.mem_cons, List.not_mem_nil, or_false] at h
  rcases h with rfl | rfl | rfl | rfl | rfl | rfl | rfl <;> kernel_rfl
theorem kit_bool (K : PySem.W.Frag) {T : String} (h : T ∈ ["NoneType", "bool", "int", "str", "list", "tuple", "dict"]) : PySem.W.kitOne K (.type T) (.type "bool") = some (T == "bool") := by
  simp only [List.mem_cons, List.not_mem_nil, or_false] at h
  rcases h with rfl | rfl | rfl | rfl | rfl | rfl | rfl <;> kernel_rfl
theorem tyn_mem {H : Hp} {v : V} {T : String} (h : tyn H v = some T) : T ∈ ["NoneType", "bool", "int", "str", "list", "tuple", "dict"] := by
  cases v with
  | non => cases h; simp
  | bl b => cases h; simp
  | int i => cases h; simp
  | str x => cases h; simp
  | ref a =>
    simp only [tyn] at h
    cases e : H a with
    | none => rw [e] at h; cases h
    | some o =>
      rw [e] at h
      cases o <;> first | (cases h; simp; done) | cases h
  | _ => cases h
theorem call_isinst : CallR X (.builtin "isinstance") (fun xs H Q => ∃ x n t b, xs = [x, .ty n] ∧ TyOf X.K H x t ∧ PySem.W.kitOne X.K t (.type n) = some b ∧ Q (.bl b) H) := by
  intro pins s σ H xs us Q I r h
  obtain ⟨x, n, t, b, rfl, ty, e, q⟩ := h
  obtain ⟨u, w', rfl, ru, rw'⟩ := vals2 r
  cases (show w' = Value.type n from rw')
  exact isinst_ok I ru ty e fun tk => ⟨.bl b, H, I.tok tk, rfl, q⟩
/-- isinstance(x, tuple), (x, int), (x, bool) -/
theorem call_isTup : CallR X (.builtin "isinstance") (fun xs H Q => ∃ x T, xs = [x, .ty "tuple"] ∧ tyn H x = some T ∧ Q (.bl (T == "tuple")) H) :=
  fun pins s σ H xs us Q I r ⟨x, T, e, hT, q⟩ => call_isinst pins s σ H xs us Q I r ⟨x, _, _, _, e, .byName hT, kit_tuple _ (tyn_mem hT), q⟩
theorem call_isInt : CallR X (.builtin "isinstance") (fun xs H Q => ∃ x T, xs = [x, .ty "int"] ∧ tyn H x = some T ∧ Q (.bl (T == "int" || T == "bool")) H) :=
  fun pins s σ H xs us Q I r ⟨x, T, e, hT, q⟩ => call_isinst pins s σ H xs us Q I r ⟨x, _, _, _, e, .byName hT, kit_int _ (tyn_mem hT), q⟩
theorem call_isBool : CallR X (.builtin "isinstance") (fun xs H Q => ∃ x T, xs = [x, .ty "bool"] ∧ tyn H x = some T ∧ Q (.bl (T == "bool")) H) :=
  fun pins s σ H xs us Q I r ⟨x, T, e, hT, q⟩ => call_isinst pins s σ H xs us Q I r ⟨x, _, _, _, e, .byName hT, kit_bool _ (tyn_mem hT), q⟩
end

/-! ### t + u of tuples, whatever is empty -/
section
variable {X : Cx}
def rCatA (K : PySem.W.Frag) : R2 := fun x y H Q => ∃ a b xs ys, x = .ref a ∧ y = .ref b ∧ H a = some (.tup xs) ∧ H b = some (.tup ys) ∧ xs.length + ys.length ≤ sizeLine ∧
  ∀ p H', Same H H' → H' p = some (.tup (xs ++ ys)) → Q (.ref p) H'
theorem op_catA : OpR X (binaryOp .Add) (rCatA X.K) := by
  intro pins s σ H x y v u Q I rx ry h
  obtain ⟨a, b, xs, ys, rfl, rfl, ha, hb, hz, q⟩ := h
  cases xs with
  | cons x xs =>
    refine op_catT pins s σ H (.ref a) (.ref b) v u Q I rx ry ⟨a, b, _, ys, rfl, rfl, SqT.of ha, SqT.of hb, (by simp), hz, fun e => ?_, fun _ p hp => ?_⟩
    · subst e
      exact q a H (Same.refl H) (by rw [List.append_nil]; exact ha)
    · exact q p _ (fun c o e => by rw [upd_ne (ne_of_none e hp)]; exact e) upd_same
  | nil =>
    cases (show v = Value.ref a from rx)
    cases (show u = Value.ref b from ry)
    obtain ⟨its, r1, p1, _⟩ := I.tuple (SqT.of (K := X.K) ha)
    obtain ⟨its2, r2, p2, _⟩ := I.tuple (SqT.of (K := X.K) hb)
    cases r1
    obtain ⟨⟨c1, d1, t1, l1⟩, o1, k1, n1, g1⟩ := id p1
    obtain ⟨⟨c2, d2, t2, l2⟩, o2, k2, n2, g2⟩ := id p2
    simp only at k1 g1 k2 g2
    subst k1 g1 k2 g2
    exact concat_meets ⟨_, o1, rfl⟩ ⟨_, o2, rfl⟩ noFill_tuple_add seq_tuple_add PySem.F.slot_tuple_add PySem.F.entry_tuple_add (PySem.F.args_tuple_add_2 _ _)
      (tuple_addW0 a b _ its2.toArray n1 n2 d1 d2 l1 l2 (by simp)) ⟨o1, o2, ⟨.ref b, H, I, rfl, q b H (Same.refl H) hb⟩⟩
end
end L2

/-! A LIST COMPREHENSION of one clause and at most one test, from which no exception leaves. -/
namespace L2
open PySem PySem.Spec PyProof.Rows

/-- the context of a comprehension's block -/
def cxComp (X : Cx) (scope : Scope) (cl : List (Str × Addr)) (C : Addr) (N : List Str) (s : Shared) (H : Hp) (ex : List Addr) : Cx :=
  { X with N := N, s₀ := s, H₀ := H, env := compEnvC scope cl C X.env, outer := X.stack, ex := ex, fn := fun _ => false, pn := [], xe := fun _ _ => False }

/-! ### the closure -/
theorem closure_has {scope : Scope} {env : Env} (hf : ∀ y ∈ scope.names, y.2 = .free → ∃ c, env.cells.lookup y.1 = some c) :
    ∃ cl, closureFor scope env = pure cl ∧ (∀ x c, cl.lookup x = some c → env.cells.lookup x = some c) ∧ ∀ y ∈ scope.names, y.2 = .free → cl.lookup y.1 = env.cells.lookup y.1 := by
  have aux : ∀ (names : List (Str × NameKind)) (acc : List (Str × Addr)), (∀ y ∈ names, y.2 = .free → ∃ c, env.cells.lookup y.1 = some c) → (∀ x c, acc.lookup x = some c → env.cells.lookup x = some c) →
      ∃ cl, (forIn names acc fun x r => match x with
          | (name, kind) => if (kind == NameKind.free) = true then (cellOf env name >>= fun c => pure (ForInStep.yield ((name, c) :: r))) else pure (ForInStep.yield r) : Sem (List (Str × Addr))) = pure cl ∧
        (∀ x c, cl.lookup x = some c → env.cells.lookup x = some c) ∧ (∀ x c, acc.lookup x = some c → cl.lookup x = some c) ∧ ∀ y ∈ names, y.2 = .free → cl.lookup y.1 = env.cells.lookup y.1 := by
    intro names
    induction names with
    | nil => intro acc _ ha; exact ⟨acc, rfl, ha, fun _ _ e => e, fun y hy => absurd hy (by simp)⟩
    | cons z r ih =>
      intro acc hn ha
      obtain ⟨n, k⟩ := z
      have hr : ∀ y ∈ r, y.2 = .free → ∃ c, env.cells.lookup y.1 = some c := fun y hy => hn y (List.mem_cons_of_mem _ hy)
      by_cases hk : k = .free
      · subst hk
        obtain ⟨c, hc⟩ := hn (n, .free) List.mem_cons_self rfl
        have hc : env.cells.lookup n = some c := hc
        have ha' : ∀ x d, ((n, c) :: acc).lookup x = some d → env.cells.lookup x = some d := fun x d e => by
          rw [List.lookup_cons] at e
          cases hx : x == n with
          | true =>
            rw [hx] at e
            have e' : c = d := Option.some.inj e
            have ex : x = n := eq_of_beq hx
            rw [ex, ← e']; exact hc
          | false => rw [hx] at e; exact ha x d e
        obtain ⟨cl, e1, e2, e3, e4⟩ := ih ((n, c) :: acc) hr ha'
        have hcell : cellOf env n = pure c := by unfold cellOf; rw [hc]
        refine ⟨cl, ?_, e2, fun x d e => ?_, fun y hy hy2 => ?_⟩
        · rw [List.forIn_cons]
          show ((if (NameKind.free == NameKind.free) = true then (cellOf env n >>= fun c => pure (ForInStep.yield ((n, c) :: acc))) else pure (ForInStep.yield acc)) >>= _) = _
          rw [if_pos (by decide : (NameKind.free == NameKind.free) = true), hcell]
          exact e1
        · have h1 : ((n, c) :: acc).lookup x = some (if x == n then c else d) := by
            rw [List.lookup_cons]
            cases hx : x == n with
            | true => rfl
            | false => exact e
          have h2 := e3 x _ h1
          have h3 := e2 x _ h2
          have h4 := ha x d e
          rw [h3] at h4
          rw [h2]; exact h4
        · rcases List.mem_cons.mp hy with rfl | hy3
          · have h1 : ((n, c) :: acc).lookup n = some c := by rw [List.lookup_cons, beq_self_eq_true]
            show cl.lookup n = _
            rw [e3 n c h1, hc]
          · exact e4 y hy3 hy2
      · have hb : (k == NameKind.free) = false := by simpa using hk
        obtain ⟨cl, e1, e2, e3, e4⟩ := ih acc hr ha
        refine ⟨cl, ?_, e2, e3, fun y hy hy2 => ?_⟩
        · rw [List.forIn_cons]
          show ((if (k == NameKind.free) = true then (cellOf env n >>= fun c => pure (ForInStep.yield ((n, c) :: acc))) else pure (ForInStep.yield acc)) >>= _) = _
          rw [hb]
          exact e1
        · rcases List.mem_cons.mp hy with rfl | hy3
          · exact absurd hy2 hk
          · exact e4 y hy3 hy2
  obtain ⟨cl, e1, e2, _, e4⟩ := aux scope.names [] hf fun x c e => by cases e
  refine ⟨cl, Eq.trans ?_ e1, e2, e4⟩
  unfold closureFor
  first
    | rfl
    | (simp only [bind_pure]; done)
    | (simp only [bind_pure]; rfl)
    | (simp only [bind_pure]
       congr 1
       funext x r
       obtain ⟨n, k⟩ := x
       cases (k == NameKind.free) <;> rfl)

theorem relabel_of {env : Env} : ∀ {names : List (Str × NameKind)} {x : Str} {k' : NameKind},
    (names.map fun (n, k) => if (k == NameKind.free && env.scope.kind == .function && env.kindOf n == some .cell) then (n, NameKind.cell) else (n, k)).lookup x = some k' →
    names.lookup x = some k' ∨ (names.lookup x = some .free ∧ k' = .cell)
  | [], _, _, h => by simp at h
  | (n, k) :: r, x, k', h => by
    have ih := @relabel_of env r x k'
    rw [List.map_cons] at h
    show List.lookup x ((n, k) :: r) = _ ∨ (List.lookup x ((n, k) :: r) = _ ∧ _)
    rw [List.lookup_cons]
    by_cases hq : (k == NameKind.free && env.scope.kind == .function && env.kindOf n == some .cell) = true
    · have g : List.lookup x ((if (k == NameKind.free && env.scope.kind == .function && env.kindOf n == some .cell) = true then (n, NameKind.cell) else (n, k)) :: _) = _ := h
      rw [if_pos hq, List.lookup_cons] at g
      have hk : k = .free := by
        rw [Bool.and_eq_true, Bool.and_eq_true] at hq
        exact eq_of_beq hq.1.1
      cases hx : x == n with
      | true => rw [hx] at g; rw [hk]; exact .inr ⟨rfl, (Option.some.inj g).symm⟩
      | false => rw [hx] at g; exact ih g
    · have g : List.lookup x ((if (k == NameKind.free && env.scope.kind == .function && env.kindOf n == some .cell) = true then (n, NameKind.cell) else (n, k)) :: _) = _ := h
      rw [if_neg hq, List.lookup_cons] at g
      cases hx : x == n with
      | true => rw [hx] at g; exact .inl g
      | false => rw [hx] at g; exact ih g
theorem relabel_cell {env : Env} (hk : env.scope.kind = .function) {x : Str} (hx : env.kindOf x = some .cell) : ∀ {names : List (Str × NameKind)}, names.lookup x = some .free →
    (names.map fun (n, k) => if (k == NameKind.free && env.scope.kind == .function && env.kindOf n == some .cell) then (n, NameKind.cell) else (n, k)).lookup x = some .cell
  | [], h => by simp at h
  | (n, k) :: r, h => by
    have ih := @relabel_cell env hk x hx r
    show List.lookup x ((if (k == NameKind.free && env.scope.kind == .function && env.kindOf n == some .cell) = true then (n, NameKind.cell) else (n, k)) :: _) = some NameKind.cell
    rw [List.lookup_cons] at h
    cases hxn : x == n with
    | true =>
      rw [hxn] at h
      have ek : k = .free := Option.some.inj h
      have en : x = n := eq_of_beq hxn
      subst ek en
      rw [if_pos (by rw [hk, hx]; rfl), List.lookup_cons, beq_self_eq_true]
    | false =>
      rw [hxn] at h
      by_cases hq : (k == NameKind.free && env.scope.kind == .function && env.kindOf n == some .cell) = true
      · rw [if_pos hq, List.lookup_cons, hxn]; exact ih h
      · rw [if_neg hq, List.lookup_cons, hxn]; exact ih h

/-! ### tests of a clause -/
def PTs (X : Cx) (ifs : List Expr) (t : TT) : Prop :=
  ∀ (pins : List (Addr × Obj)) (s : Shared) (σ : St) (H : Hp) (Q : Bool → Hp → Prop), Inv X pins σ H s → t σ H Q →
    wpAny (model X.prog X.w) X.A (forIn ifs true fun c r => if r = true then do let ok ← isTrue c X.env (eval c X.env); pure (ForInStep.yield ok) else pure (ForInStep.yield r)) (TP X pins σ Q) X.xe s
def tNoIf : TT := fun _ H Q => Q true H
theorem tNoIf_go {σ : St} {H : Hp} {A B : Hp → Prop} (h : A H) : tNoIf σ H fun b H4 => if b = true then A H4 else B H4 := by
  show if true = true then A H else B H
  rw [if_pos rfl]
  exact h
theorem pts_nil {X : Cx} : PTs X [] tNoIf := fun _ _ _ H _ I h => wpAny_tests_nil ⟨H, I, h⟩
theorem pts_one {X : Cx} {c : Expr} {t : TT} (h : PT X c t) : PTs X [c] t := fun pins s σ H Q I q => wpAny_tests_one (h pins s σ H Q I q)

/-- an untracked object is taken into the tracked ones, as it stands -/
theorem HOk.take {P : Program} {w : World} {H : Hp} {h : Heap} {a : Addr} {o : HO} (x : HOk P w H h) (hn : H a = none) (new : ObjOk P w (upd H a o) h a o) : HOk P w (upd H a o) h := fun b u e => by
  by_cases hb : b = a
  · subst hb; rw [upd_same] at e; cases e; exact new
  · rw [upd_ne hb] at e
    exact (x b u e).stay (fun _ _ _ q => q) (fun c q => by rw [upd_ne (ne_of_none q hn)]; exact q) fun c xs q => by rw [upd_ne (ne_of_none q hn)]; exact q

/-- the block's names at its entry: the clause's own first, then those from around (slots js) -/
def blockSt (σ : St) (js : List Nat) : St := js.map fun j => (σ[j]?).getD none
def CompW (js : List Nat) (tt : TT) (te : TE) (σ : St) (Q : VK) (J : It) (H1 : Hp) : Prop := ∃ W : Nat → Nat → List V → Hp → Prop, (∃ m, W 0 m [] H1) ∧ ∀ i m ys H2, W i m ys H2 →
  (J.stop i H2 ∧ ∀ D, H2 D = none → Q (.ref D) (upd H2 D (.lst ys))) ∨
  (J.go i H2 ∧ ys.length < sizeLine ∧ ∃ N : List V → Hp → Prop, (∀ ys' H', N ys' H' → ∃ m', m' < m ∧ W (i + 1) m' ys' H') ∧ ∀ x H3, J.yld i H2 x H3 → tt (some x :: blockSt σ js) H3 fun b H4 =>
    if b = true then te (some x :: blockSt σ js) H4 fun y H5 => N (ys ++ [y]) H5 else N ys H4)
def tComp (wi : TI) (js : List Nat) (tt : TT) (te : TE) : TE := fun σ H Q => wi σ H fun J H1 => CompW js tt te σ Q J H1

abbrev lobj (us : List Value) (n : Nat) : Obj := { cls := .type "list", data := .seq us.toArray n }

section
variable {prog : Program} {w : World} {A : Around} {s : Shared} {R : Result → Shared → Prop}
abbrev NotedR (prog : Program) (w : World) (A : Around) (env : Env) (R : Result → Shared → Prop) : Value → Shared → Prop := notedBy (model prog w) A env fun x t => R (.error x) t
/-- a block's turns, with whatever the iterator lets go of ahead of the store -/
theorem loop_any {elt tg iter : Expr} {ifs : List Expr} {scope : Scope} {pos : Pos} {it acc : Value} {env : Env} (J : Nat → Shared → Prop)
    (step : ∀ k t, J k t → wpAny (model prog w) A (pyNext it) (fun r t1 => match r with
      | none => R (.ok .next) t1
      | some v => wpAny (model prog w) A (letOwnedTupleGo tg it v) (fun _ t2 => wpAny (model prog w) A (assign tg env v) (fun _ t3 =>
          wpAny (model prog w) A (forIn ifs true fun c b => if b = true then do let z ← isTrue c env (eval c env); pure (ForInStep.yield z) else pure (ForInStep.yield b)) (fun z t4 =>
            if z = true then wpAny (model prog w) A (eval elt env) (fun y t5 => wpAny (model prog w) A (call (.builtin "list.append") [acc, y]) (fun _ t6 => ∃ m, m < k ∧ J m t6) (NotedR prog w A env R) t5) (NotedR prog w A env R) t4
            else ∃ m, m < k ∧ J m t4) (NotedR prog w A env R) t3) (NotedR prog w A env R) t2) (NotedR prog w A env R) t1) (NotedR prog w A env R) t)
    (k : Nat) (h : J k s) : codeAny (model prog w) A (.compLoop (.ListComp elt [⟨tg, iter, ifs, 0⟩] scope pos) 0 it acc env) R s := by
  refine codeAny_loop rfl J (fun k t hJ => ?_) k h
  show wpAny _ A ((compTurn (.ListComp elt [⟨tg, iter, ifs, 0⟩] scope pos) 0 it acc env).onRaise (fun y => do noteFrame y env; theTreesLotGoes y)) _ _ t
  refine wpAny_noted ?_
  rw [compTurn_list]
  refine wpAny_bind (wpAny_standAt (wpAny_bind (wpAny_mono (step k t hJ) (fun r t1 q1 => ?_) fun _ _ f => f)))
  cases r with
  | none => exact wpAny_pure q1
  | some v =>
    refine wpAny_bind (wpAny_mono q1 (fun _ t2 q2 => ?_) fun _ _ f => f)
    refine wpAny_bind (wpAny_mono q2 (fun _ t3 q3 => ?_) fun _ _ f => f)
    refine wpAny_bind (wpAny_mono q3 (fun z t4 q4 => ?_) fun _ _ f => f)
    cases z with
    | false => exact wpAny_pure ⟨rfl, q4⟩
    | true => exact wpAny_bind (wpAny_bind (wpAny_mono q4 (fun y t5 q5 => wpAny_bind (wpAny_mono q5 (fun _ t6 q6 => wpAny_pure (wpAny_pure ⟨rfl, q6⟩)) fun _ _ f => f)) fun _ _ f => f))
end
def CompWT (n : Nat) (g : TG) (js : List Nat) (tt : TT) (te : TE) (σ : St) (Q : VK) (J : It) (H1 : Hp) : Prop := ∃ W : Nat → Nat → List V → Hp → Prop, (∃ m, W 0 m [] H1) ∧ ∀ i m ys H2, W i m ys H2 →
  (J.stop i H2 ∧ ∀ D, H2 D = none → Q (.ref D) (upd H2 D (.lst ys))) ∨
  (J.go i H2 ∧ ys.length < sizeLine ∧ ∃ N : List V → Hp → Prop, (∀ ys' H', N ys' H' → ∃ m', m' < m ∧ W (i + 1) m' ys' H') ∧ ∀ x H3, J.yld i H2 x H3 → ∀ v0 : St, v0.length = n → g x (v0 ++ blockSt σ js) H3 fun σ4 H4 =>
    (∃ v1 : St, v1.length = n ∧ σ4 = v1 ++ blockSt σ js) ∧ tt σ4 H4 fun b H5 => if b = true then te σ4 H5 fun y H6 => N (ys ++ [y]) H6 else N ys H5)
def tCompT (wi : TI) (n : Nat) (g : TG) (js : List Nat) (tt : TT) (te : TE) : TE := fun σ H Q => wi σ H fun J H1 => CompWT n g js tt te σ Q J H1
theorem comp_core {X : Cx} {pins : List (Addr × Obj)} {s : Shared} {σ : St} {H : Hp} {Q : VK} {use : Option (Value → Sem Unit)} {R : Value → Shared → Prop} {pos' : Pos} {CW : St → VK → It → Hp → Prop} {elt iter tg : Expr} {xs : List Str} {g : TG} {pos : Pos} {ifs : List Expr} {scope : Scope} {wi : TI} {te : TE} {tt : TT} {fr : List Str} {js : List Nat}
    (hc : X.calm = true) (hi : PI X tg iter wi)
    (hcell : ∀ y ∈ scope.names, y.2 ≠ .cell) (hkind : scope.kind = .function) (hnames : ∀ y ∈ scope.names, y.2 = .local → scope.names.lookup y.1 = some .local)
    (hfr : ∀ y ∈ scope.names, y.2 = .free → X.env.scope.names.lookup y.1 = some .cell) (hjs : js.map (fun j => X.N[j]?) = fr.map some) (hfv : ∀ y ∈ fr, scope.names.lookup y = some .free)
    (hg : ∀ cl C s' H' ex, PG (cxComp X scope cl C (xs ++ fr) s' H' ex) tg g)
    (hb : ∀ cl C s' H' ex, PE (cxComp X scope cl C (xs ++ fr) s' H' ex) elt te ∧ PTs (cxComp X scope cl C (xs ++ fr) s' H' ex) ifs tt)
    (hCW : ∀ σ Q J H1, CW σ Q J H1 → CompWT xs.length g js tt te σ Q J H1) (I : Inv X pins σ H s) (h : wi σ H fun J H1 => CW σ Q J H1)
    (fin : ∀ (s4 : Shared) (H5 : Hp) (D C : Addr) (mC : Str → Option Value), s4.heap.Ns C mC → Inv X pins σ H5 s4 → H5 C = none → C ≠ X.env.locals → C ∉ X.fs → (∀ p ∈ X.pn ++ pins, p.1 ≠ C) → (∀ y c, X.env.cells.lookup y = some c → c ≠ C) → X.s₀.heap.objs.size ≤ C → Q (.ref D) H5 → compPost (model X.prog X.w) X.A X.xe use R (.ref D) C (.ok .next) s4)
    (hs : ∀ z, foldedSetIterable iter X.env z = pure z := by intro _; rfl) :
    wpAny (model X.prog X.w) X.A (comprehension (.ListComp elt [⟨tg, iter, ifs, 0⟩] scope pos) scope X.env pos' (newList []) false (eval iter X.env) use) R X.xe s := by
  have hXk : X.env.scope.kind = .function := I.ok.kind
  obtain ⟨cl, hclos, c1, c2⟩ := closure_has (scope := scope) (env := X.env) fun y hy hk => I.ok.has _ (.inl (hfr y hy hk))
  refine wpAny_comprehension_free rfl hs hclos hkind hnames (thn (hi pins s σ H _ I h) fun xv s1 h1 => thn h1 fun itv s2 h2 => ?_)
  obtain ⟨it, fp, tn, J, H2, rfl, I2, T, st2, f2, hcw⟩ := h2
  obtain ⟨W, ⟨m0, w0⟩, turn⟩ := hCW _ _ _ _ hcw
  refine wpAny_newObj_type (wpAny_newFunctionEnv hcell (by intro y hy; simp at hy) (fun hA nsA sbA => ?_) hkind)
  dsimp only at nsA sbA ⊢
  generalize hG : s2.heap.push { cls := .type "list", dict := none, data := .seq ([] : List Value).toArray } = G at nsA sbA ⊢
  -- D: the list; C: the block's names
  have hC : G.objs.size = s2.heap.objs.size + 1 := by rw [← hG, Heap.size_push]
  have hDC : s2.heap.objs.size ≠ G.objs.size := by rw [hC]; exact Nat.ne_of_lt (Nat.lt_succ_self _)
  have small : ∀ b o, s2.heap.get? b = some o → b ≠ G.objs.size ∧ b ≠ s2.heap.objs.size := fun b o e => ⟨by rw [hC]; exact Nat.ne_of_lt (Nat.lt_succ_of_lt (Heap.lt_size e)), Nat.ne_of_lt (Heap.lt_size e)⟩
  have old : ∀ b o, s2.heap.get? b = some o → hA.get? b = some o := fun b o e => sbA.extBut b o (small b o e).1 (Heap.get?_push_of_some _ (hG ▸ Heap.get?_push_of_some _ e))
  have hDA : hA.get? s2.heap.objs.size = some (lobj [] 0) := sbA.extBut _ _ hDC (Heap.get?_push_of_some _ (hG ▸ Heap.get?_push_size _ rfl))
  have fpo : ∀ b ∈ fp, ∃ o, s2.heap.get? b = some o := fun b hb => let ⟨o, e, _⟩ := T.obj _ _ st2 b hb; ⟨o, e⟩
  have celo : ∀ y c, cl.lookup y = some c → ∃ o, s2.heap.get? c = some o := fun y c e => let ⟨_, o, ho, _⟩ := I2.cell y c (c1 y c e); ⟨o, ho⟩
  have ok' : (cxComp X scope cl G.objs.size (xs ++ fr) s2 H2 fp).Ok := by
    refine ⟨I2.ok.mod, hkind, I2.ok.glob, I2.ok.blt, ?_, fun a b c e1 e2 => I2.ok.inj a b c (c1 a c e1) (c1 b c e2), fun y hy => ?_, fun _ _ z => absurd z (by intro q; cases q), I2.ok.hd, I2.ok.frames, .inl rfl, fun b hb => ?_, I2.bs, Nat.le_trans I2.ok.bsz I2.sz, fun b o e hb => ?_, fun b hb hz => ?_, I2.stack, I2.stkFree⟩
    · show s2.heap.objs.size ≤ G.objs.size
      rw [hC]; exact Nat.le_succ _
    · have hy : (relabel scope X.env).names.lookup y = some .cell ∨ (relabel scope X.env).names.lookup y = some .free := hy
      have key : scope.names.lookup y = some .free := by
        rcases hy with hy | hy
        · rcases relabel_of hy with q | ⟨q, _⟩
          · exact absurd rfl (hcell _ (PySem.mem_of_lookup q))
          · exact q
        · rcases relabel_of hy with q | ⟨q, _⟩
          · exact q
          · exact q
      have hm := PySem.mem_of_lookup key
      obtain ⟨c, e⟩ := I.ok.has y (.inl (hfr _ hm rfl))
      exact ⟨c, (c2 _ hm rfl).trans e⟩
    · obtain ⟨o, e⟩ := fpo b hb
      exact ⟨(small b o e).1, fun y c q => (f2 b hb).2.2.2.2.1 y c (c1 y c q)⟩
    · obtain ⟨_, _, _, f3, _⟩ := f2 b hb
      rcases f3 with f3 | f3
      · exact I2.ok.noex b o e f3
      · exact absurd (Nat.lt_of_lt_of_le (Heap.lt_size e) (Nat.le_trans I2.ok.bsz f3)) (Nat.lt_irrefl _)
    · obtain ⟨_, n1, n2, _⟩ := f2 b hb
      exact (List.mem_cons.mp (I2.stkSub b hz)).elim n1 n2
  have nofs : s2.heap.objs.size ∉ frs X.stack := fun hz => by
    obtain ⟨_, o, ho, _⟩ := I2.stack.mem hz
    exact Nat.lt_irrefl _ (Heap.lt_size ho)
  have lenB : (blockSt σ js).length = fr.length := by
    have e := congrArg List.length hjs
    rw [List.length_map, List.length_map] at e
    unfold blockSt
    rw [List.length_map]; exact e
  have start' : ∀ t, Inv (cxComp X scope cl G.objs.size (xs ++ fr) s2 H2 fp) [(s2.heap.objs.size, lobj [] 0)] ((xs.map fun _ => none) ++ blockSt σ js) H2 { s2 with heap := hA, toks := t } := fun t => by
    refine ⟨ok', rfl, I2.bare, Un.kept old, ⟨_, nsA, fun i y v e1 e2 e3 => ?_⟩, fun y c e => ?_, I2.hok.fresh (by rw [hC]; exact Nat.le_succ _), fun y c e => I2.freeC y c (c1 y c e), fun p hp => ?_, I2.hok.kept old, ?_⟩
    · by_cases hix : i < xs.length
      · rw [List.getElem?_append_left (by rw [List.length_map]; exact hix), List.getElem?_map, List.getElem?_eq_getElem hix] at e2
        cases e2
      · obtain ⟨i, rfl⟩ : ∃ j, i = xs.length + j := ⟨i - xs.length, by omega⟩
        have e1 : (xs ++ fr)[xs.length + i]? = some y := e1
        have e1 : fr[i]? = some y := by rw [List.getElem?_append_right (by omega), show xs.length + i - xs.length = i by omega] at e1; exact e1
        have e2 : (blockSt σ js)[i]? = some (some v) := by rw [List.getElem?_append_right (by rw [List.length_map]; omega), List.length_map, show xs.length + i - xs.length = i by omega] at e2; exact e2
        unfold blockSt at e2
        rw [List.getElem?_map] at e2
        obtain ⟨j, ej, e2⟩ := Option.map_eq_some_iff.mp e2
        have hN : X.N[j]? = some y := by
          have q := congrArg (fun l => l[i]?) hjs
          simp only [List.getElem?_map, ej, e1, Option.map_some] at q
          exact Option.some.inj q
        have hσ : σ[j]? = some (some v) := by
          cases z : σ[j]? with
          | none => rw [z] at e2; cases e2
          | some w => rw [z] at e2; exact congrArg some e2
        have hfree := hfv y (List.mem_of_getElem? e1)
        have hm := PySem.mem_of_lookup hfree
        have hce : X.env.scope.names.lookup y = some .cell := hfr _ hm rfl
        obtain ⟨m, _, hl⟩ := I2.loc
        obtain ⟨u, ru, look⟩ := hl j y v hN hσ (.inr (.inl hce))
        refine ⟨u, ru, .inr ⟨.inl (relabel_cell hXk hce hfree), ?_⟩⟩
        rcases look with ⟨k, _⟩ | ⟨_, c, ec, ho⟩
        · have k : X.env.scope.names.lookup y = some .local := k
          rw [hce] at k; cases k
        · obtain ⟨o, ho, hd⟩ := ho
          exact ⟨c, (c2 _ hm rfl).trans ec, o, old c o ho, hd⟩
    · obtain ⟨v, o, ho, hd⟩ := I2.cell y c (c1 y c e)
      exact ⟨v, o, old c o ho, hd⟩
    · have hp : p ∈ [(s2.heap.objs.size, lobj [] 0)] := hp
      have e := List.mem_singleton.mp hp
      subst e
      exact ⟨hDA, I2.hok.fresh (Nat.le_refl _), hDC, nofs, fun v z => by cases z⟩
    · show ((xs.map fun _ => none) ++ blockSt σ js).length = (xs ++ fr).length
      rw [List.length_append, List.length_append, List.length_map, lenB]
  have fok : ∀ {us : List Value} {n : Nat} {H' : Hp}, (∀ b ∈ fp, H' b = none) → ∀ b ∈ fp, FpOk (cxComp X scope cl G.objs.size (xs ++ fr) s2 H2 fp) [(s2.heap.objs.size, lobj us n)] H' b := fun {us n H'} hn b hb => by
    obtain ⟨o, e⟩ := fpo b hb
    refine ⟨hn b hb, (small b o e).1, fun hz => (List.mem_cons.mp (I2.stkSub b hz)).elim (f2 b hb).2.1 (f2 b hb).2.2.1, .inl hb, fun y c q => (f2 b hb).2.2.2.2.1 y c (c1 y c q), fun p hp => ?_⟩
    have hp : p ∈ [(s2.heap.objs.size, lobj us n)] := hp
    have ep := List.mem_singleton.mp hp
    subst ep
    exact fun z => (small b o e).2 z.symm
  have loop : ∀ sB : Shared, (∃ t, sB = { s2 with heap := hA, toks := t }) →
      codeAny (model X.prog X.w) X.A (.compLoop (.ListComp elt [⟨tg, iter, ifs, 0⟩] scope pos) 0 (.ref it) (.ref s2.heap.objs.size) (compEnvC scope cl G.objs.size X.env))
        (compPost (model X.prog X.w) X.A X.xe use R (.ref s2.heap.objs.size) G.objs.size) sB := by
    rintro sB ⟨t, rfl⟩
    refine loop_any (fun k s' => ∃ i ys us n v0 H', v0.length = xs.length ∧ Inv (cxComp X scope cl G.objs.size (xs ++ fr) s2 H2 fp) [(s2.heap.objs.size, lobj us n)] (v0 ++ blockSt σ js) H' s' ∧ Vals ys us ∧ ys.length ≤ sizeLine ∧ tn i s'.heap ∧ (∀ b ∈ fp, H' b = none) ∧ W i k ys H') ?_ m0
      ⟨0, [], [], 0, xs.map fun _ => none, H2, List.length_map .., start' t, .nil, Nat.zero_le _, T.keep _ _ _ st2 fun b hb o e => old b o e, fun b hb => (f2 b hb).1, w0⟩
    rintro k s3 ⟨i, ys, us, n, v0, H3, hv0, I3, rv, hlen, st3, fr3, w3⟩
    rcases turn i k ys H3 w3 with ⟨stop, qn⟩ | ⟨go, hlt, N', hN', step⟩
    · refine thn (T.done (cxComp X scope cl G.objs.size (xs ++ fr) s2 H2 fp) rfl rfl rfl hc i _ s3 _ H3 _ I3 (fok fr3) st3 stop) fun r s4 hz0 => ?_
      obtain ⟨hr, I4⟩ := hz0
      subst hr
      obtain ⟨mC, hnC, _⟩ := id I4.loc
      obtain ⟨pD, nD, _, _, _⟩ := I4.pin (s2.heap.objs.size, lobj us n) (by show _ ∈ [] ++ [_]; simp)
      have pD : s4.heap.get? s2.heap.objs.size = some (lobj us n) := pD
      have nD : H3 s2.heap.objs.size = none := nD
      have nC : H3 G.objs.size = none := I4.free
      have D2 : ∀ b o, s2.heap.get? b = some o → b ≠ s2.heap.objs.size := fun b o e => (small b o e).2
      have base4 : Un (frs X.stack) fp H2 H3 s2.heap s4.heap := I4.base
      have u4 : Un (frs X.stack) fp H2 (upd H3 s2.heap.objs.size (.lst ys)) s2.heap s4.heap :=
        { keep := base4.keep
          slot := base4.slot
          free := fun b o e nb hx' => by rw [upd_ne (D2 b o e)]; exact base4.free b o e nb hx'
          there := base4.there
          tups := fun b xs e => by have q := base4.tups b xs e; rw [upd_ne (ne_of_none q nD)]; exact q
          frzs := fun b o u e => by have q := base4.frzs b o u e; rw [upd_ne (ne_of_none q nD)]; exact q
          tbls := fun b ps e => by obtain ⟨more, q⟩ := base4.tbls b ps e; exact ⟨more, by rw [upd_ne (ne_of_none q nD)]; exact q⟩ }
      have I5 : Inv X pins σ (upd H3 s2.heap.objs.size (.lst ys)) s4 := I2.call' (s' := s4) (ch := fp) I4.os u4 (I4.hok.take nD ⟨hlen, us, n, rv, pD⟩) I4.bare fun b hb => by
        obtain ⟨_, g1, _, g3, g4, g5⟩ := f2 b hb
        exact ⟨g3, g1, g4, g5⟩
      have locC : G.objs.size ≠ X.env.locals := fun z => by
        obtain ⟨_, ⟨o, _, _, ho, _⟩, _⟩ := id I2.loc
        exact (small _ o ho).1 z.symm
      have fsC : G.objs.size ∉ X.fs := fun hz => by
        obtain ⟨_, o, ho, _⟩ := I2.ok.funs.mem hz
        have := Nat.lt_of_lt_of_le (Heap.lt_size ho) I2.sz
        rw [hC] at this
        exact Nat.lt_irrefl _ (Nat.lt_of_succ_lt this)
      have pinX : ∀ p ∈ X.pn ++ pins, p.1 ≠ G.objs.size := fun p hp => (small _ _ (I2.pin p hp).1).1
      have nCu : (upd H3 s2.heap.objs.size (.lst ys)) G.objs.size = none := by rw [upd_ne (Ne.symm hDC)]; exact nC
      refine fin s4 _ _ _ mC hnC I5 nCu locC fsC pinX (fun y c q z => ?_) (Nat.le_trans I2.sz (by rw [hC]; exact Nat.le_succ _)) (qn _ nD)
      obtain ⟨v, o, ho, _⟩ := I2.cell y c q
      exact (small c o ho).1 z
    · refine thn (T.item (cxComp X scope cl G.objs.size (xs ++ fr) s2 H2 fp) rfl rfl rfl hc i _ s3 _ H3 _ I3 (fok fr3) st3 go) fun r s4 hz0 => ?_
      obtain ⟨u, hr, h4⟩ := hz0
      subst hr
      refine thn h4 fun _ s5 hz0 => ?_
      obtain ⟨v, H5, I5, r5, y5, st5, fr5⟩ := hz0
      have I5' := I5.pinned (fok fr5) (T.obj _ _ st5)
      refine wpAny_mono (hg cl G.objs.size s2 H2 fp _ s5 _ H5 v u _ I5' r5 (step v H5 y5 v0 hv0)) (fun _ s6 hz0 => ?_) fun _ _ f => f.elim
      obtain ⟨σ6, H6, I6, ⟨w1, hw1, e6⟩, q6⟩ := hz0
      subst e6
      refine wpAny_mono ((hb cl G.objs.size s2 H2 fp).2 _ s6 _ H6 _ I6 q6) (fun b s7 hz0 => ?_) fun _ _ f => f.elim
      obtain ⟨H7, I7, q7⟩ := hz0
      have back : ∀ {s8 : Shared} {H8 : Hp}, Inv (cxComp X scope cl G.objs.size (xs ++ fr) s2 H2 fp) ([(s2.heap.objs.size, lobj us n)] ++ pinsAt fp s5.heap) (w1 ++ blockSt σ js) H8 s8 → tn (i + 1) s8.heap ∧ ∀ b ∈ fp, H8 b = none := fun {s8 H8} I8 => by
        refine ⟨T.keep _ _ _ st5 fun b hb o e => (I8.pin (b, o) (List.mem_append_right _ (List.mem_append_right _ (mem_pinsAt hb e)))).1, fun b hb => ?_⟩
        obtain ⟨o, e, _⟩ := T.obj _ _ st5 b hb
        exact (I8.pin (b, o) (List.mem_append_right _ (List.mem_append_right _ (mem_pinsAt hb e)))).2.1
      cases b with
      | false =>
        obtain ⟨m', hm, w7⟩ := hN' _ _ q7
        obtain ⟨t7, n7⟩ := back I7
        exact ⟨m', hm, i + 1, ys, us, n, w1, H7, hw1, I7.unpinned, rv, hlen, t7, n7, w7⟩
      | true =>
        refine wpAny_mono ((hb cl G.objs.size s2 H2 fp).1 _ s7 _ H7 _ I7 q7) (fun y' s8 hz0 => ?_) fun _ _ f => f.elim
        obtain ⟨y, H8, I8, r8, q8⟩ := hz0
        obtain ⟨m', hm, w8⟩ := hN' _ _ q8
        obtain ⟨t8, n8⟩ := back I8
        have I8' := I8.unpinned
        obtain ⟨pD, nD, _, _, _⟩ := I8'.pin (s2.heap.objs.size, lobj us n) (by show _ ∈ [] ++ [_]; simp)
        have pD : s8.heap.get? s2.heap.objs.size = some (lobj us n) := pD
        have nD : H8 s2.heap.objs.size = none := nD
        refine append_at pD (fun h9 hs9 e9 => ?_) (by rw [List.size_toArray, ← rv.length]; exact hlen)
        have e9 : h9.get? s2.heap.objs.size = some (lobj (us ++ [y']) (n + 1)) := by rw [e9]; simp [lobj]
        have J0 : Inv (cxComp X scope cl G.objs.size (xs ++ fr) s2 H2 fp) [] (w1 ++ blockSt σ js) H8 s8 := I8'.pins_of fun p hp => absurd hp (by simp)
        have J9 : Inv (cxComp X scope cl G.objs.size (xs ++ fr) s2 H2 fp) [] (w1 ++ blockSt σ js) H8 { s8 with heap := h9, toks := s8.toks } :=
          J0.turned (it := s2.heap.objs.size) (fun b o hb' e => hs9.extBut b o hb' e) nD hDC (.inr (Nat.le_refl _)) (fun y0 c q z => by
            obtain ⟨o, e⟩ := celo y0 c q
            exact (small c o e).2 z) fun p hp => absurd (show p ∈ ([] : List (Addr × Obj)) from hp) (by simp)
        refine ⟨m', hm, i + 1, ys ++ [y], us ++ [y'], n + 1, w1, H8, hw1, J9.pins_of fun p hp => ?_, rv.append (.cons r8 .nil), (by rw [List.length_append, List.length_singleton]; exact hlt), T.keep _ _ _ t8 fun b hb' o e => hs9.extBut b o (by
          obtain ⟨o', e'⟩ := fpo b hb'
          exact (small b o' e').2) e, n8, w8⟩
        have ep := List.mem_singleton.mp hp
        subst ep
        exact ⟨e9, nD, hDC, nofs, fun v z => by cases z⟩
  exact codeAny_compStart_list (loop _ ⟨_, rfl⟩) (T.self _ 0 _ _ _ (T.keep _ _ _ st2 fun b hb o e => old b o e) (loop _ ⟨_, rfl⟩))

theorem pe_compC {X : Cx} {CW : St → VK → It → Hp → Prop} {elt iter tg : Expr} {xs : List Str} {g : TG} {pos : Pos} {ifs : List Expr} {scope : Scope} {wi : TI} {te : TE} {tt : TT} {fr : List Str} {js : List Nat}
    (hc : X.calm = true) (hi : PI X tg iter wi)
    (hcell : ∀ y ∈ scope.names, y.2 ≠ .cell) (hkind : scope.kind = .function) (hnames : ∀ y ∈ scope.names, y.2 = .local → scope.names.lookup y.1 = some .local)
    (hfr : ∀ y ∈ scope.names, y.2 = .free → X.env.scope.names.lookup y.1 = some .cell) (hjs : js.map (fun j => X.N[j]?) = fr.map some) (hfv : ∀ y ∈ fr, scope.names.lookup y = some .free)
    (hg : ∀ cl C s' H' ex, PG (cxComp X scope cl C (xs ++ fr) s' H' ex) tg g)
    (hb : ∀ cl C s' H' ex, PE (cxComp X scope cl C (xs ++ fr) s' H' ex) elt te ∧ PTs (cxComp X scope cl C (xs ++ fr) s' H' ex) ifs tt)
    (hCW : ∀ σ Q J H1, CW σ Q J H1 → CompWT xs.length g js tt te σ Q J H1) (hs : ∀ z, foldedSetIterable iter X.env z = pure z := by intro _; rfl) :
    PE X (.ListComp elt [⟨tg, iter, ifs, 0⟩] scope pos) (fun σ H Q => wi σ H fun J H1 => CW σ Q J H1) := by
  intro pins s σ H Q I h
  rw [eval_ListComp]
  exact comp_core (use := none) (R := EP X pins σ Q) hc hi hcell hkind hnames hfr hjs hfv hg hb hCW I h (fun s4 H5 D C mC n I5 nC lC fC pC cC sC q => ⟨mC, n, fun h' hsb => ⟨.ref D, H5, I5.turned (t' := s4.toks) (it := C) (fun b o hb' e => hsb.extBut b o hb' e) nC lC (.inr sC) cC pC, rfl, q⟩⟩) hs
theorem compW_T {js : List Nat} {tt : TT} {te : TE} {σ : St} {Q : VK} {J : It} {H1 : Hp} (h : CompW js tt te σ Q J H1) : CompWT 1 (gName 0) js tt te σ Q J H1 := by
  obtain ⟨W, w0, turn⟩ := h
  refine ⟨W, w0, fun i m ys H2 hw => ?_⟩
  rcases turn i m ys H2 hw with h | ⟨h1, h2, N, h3, h4⟩
  · exact .inl h
  · refine .inr ⟨h1, h2, N, h3, fun x H3 hy v0 hv => ?_⟩
    obtain ⟨w, rfl⟩ : ∃ w, v0 = [w] := by
      obtain _ | ⟨w, v0⟩ := v0
      · cases hv
      · obtain _ | ⟨z, v0⟩ := v0
        · exact ⟨w, rfl⟩
        · cases hv
    exact ⟨⟨[some x], rfl, rfl⟩, h4 x H3 hy⟩
theorem pe_comp {X : Cx} {elt iter : Expr} {x : Str} {px pos : Pos} {ifs : List Expr} {scope : Scope} {wi : TI} {te : TE} {tt : TT} {fr : List Str} {js : List Nat}
    (hc : X.calm = true) (hi : PI X (.Name x px) iter wi)
    (hcell : ∀ y ∈ scope.names, y.2 ≠ .cell) (hkind : scope.kind = .function) (hnames : ∀ y ∈ scope.names, y.2 = .local → scope.names.lookup y.1 = some .local) (hx : scope.names.lookup x = some .local)
    (hfr : ∀ y ∈ scope.names, y.2 = .free → X.env.scope.names.lookup y.1 = some .cell) (hnd : (x :: fr).Nodup) (hjs : js.map (fun j => X.N[j]?) = fr.map some) (hfv : ∀ y ∈ fr, scope.names.lookup y = some .free)
    (hb : ∀ cl C s' H' ex, PE (cxComp X scope cl C (x :: fr) s' H' ex) elt te ∧ PTs (cxComp X scope cl C (x :: fr) s' H' ex) ifs tt)
    (hs : ∀ z, foldedSetIterable iter X.env z = pure z := by intro _; rfl) :
    PE X (.ListComp elt [⟨.Name x px, iter, ifs, 0⟩] scope pos) (tComp wi js tt te) :=
  pe_compC (xs := [x]) (g := gName 0) hc hi hcell hkind hnames hfr hjs hfv (fun _ _ _ _ _ => pg_name hnd rfl (.inl (lookup_relabel_local hx)) (.inr (lookup_relabel_local hx))) hb (fun _ _ _ _ h => compW_T h) hs
/-- over a tuple that the block leaves as it is -/
theorem comp_tup {K : PySem.W.Frag} {a : Addr} {xs : List V} {js : List Nat} {tt : TT} {te : TE} {σ : St} {H : Hp} {Q : VK} (Pv : Nat → List V → Hp → Prop) (h0 : Pv 0 [] H) (hl : ∀ i ys H, i ≤ xs.length → Pv i ys H → SqT K H a xs ∧ ys.length ≤ i) (hz : xs.length ≤ sizeLine)
    (hs : ∀ i x ys H, xs[i]? = some x → Pv i ys H → tt (some x :: blockSt σ js) H fun b H4 => if b = true then te (some x :: blockSt σ js) H4 fun y H5 => Pv (i + 1) (ys ++ [y]) H5 else Pv (i + 1) ys H4)
    (hd : ∀ ys H, Pv xs.length ys H → ∀ D, H D = none → Q (.ref D) (upd H D (.lst ys))) : CompW js tt te σ Q (Itt K a) H := by
  refine ⟨fun i m ys H => i ≤ xs.length ∧ m = xs.length - i ∧ Pv i ys H, ⟨_, Nat.zero_le _, rfl, h0⟩, fun i m ys H2 hz0 => ?_⟩
  obtain ⟨hi, hm, hp⟩ := hz0
  obtain ⟨hq, hy⟩ := hl i ys H2 hi hp
  by_cases e : i = xs.length
  · subst e
    exact .inl ⟨⟨xs, hq, Nat.le_refl _⟩, hd ys H2 hp⟩
  · have hlt : i < xs.length := Nat.lt_of_le_of_ne hi e
    refine .inr ⟨⟨xs, _, hq, List.getElem?_eq_getElem hlt⟩, by omega, Pv (i + 1), fun ys' H' hp' => ⟨xs.length - (i + 1), by omega, by omega, rfl, hp'⟩, fun x H3 hy3 => ?_⟩
    obtain ⟨e3, hx⟩ := hy3
    subst e3
    exact hs i x ys H3 (hx xs hq) hp
end L2

/-! zip(t, l) of a tuple and a list, walked by a loop with two targets. -/
namespace L2
open PySem PySem.Spec PyProof.Rows
section
variable {prog : Program} {w : World} {A : Around} {E : Value → Shared → Prop} {s : Shared}

theorem nextT_item {j t : Addr} {i : Nat} {its} {v : Value} {Q : Value → Shared → Prop} (jt : s.heap.IsTupleIter j t i) (tt : s.heap.IsTuple t its) (hv : its[i]? = some v)
    (q : ∀ g, g.IsTupleIter j t (i + 1) → Heap.SameBut j s.heap g → Q v { s with heap := g }) : wpAny (model prog w) A (Builtin.SmallTypes.nextOf (.ref j)) Q E s := by
  obtain ⟨ob, e1, e2, e3⟩ := id jt
  obtain ⟨ot, g1, _, k, g2⟩ := tt
  unfold Builtin.SmallTypes.nextOf
  refine wpAny_bind (wpAny_callSpecial?_slot (name := Str.ofString "__next__") jt.typeIs F.slot_tuple_iterator_next (wpAny_call_entry F.slot_tuple_iterator_next jt.typeIs F.entry_tuple_iterator_next ?_ (F.args_tuple_iterator_next_1 _)))
  show wpAny _ _ (field (.ref j) 0 >>= _) _ _ s
  refine wpAny_bind (wpAny_field e1 e3 (x := .ref t) rfl ?_)
  show wpAny _ _ (ite ((Value.ref t == Value.none) = true) _ _) _ _ s
  rw [if_neg (fun z : (Value.ref t == Value.none) = true => Bool.false_ne_true z)]
  show wpAny _ _ (field (.ref j) 1 >>= _) _ _ s
  refine wpAny_bind (wpAny_field e1 e3 (x := .int i 0) rfl ?_)
  show wpAny _ _ (seqItems? (.ref t) >>= _) _ _ s
  refine wpAny_bind (wpAny_seqItems g1 g2 ?_)
  simp only [Int.toNat_natCast, hv]
  refine wpAny_bind (wpAny_setField e1 e3 (by simp) (wpAny_pure ⟨v, rfl, wpAny_pure (q _ ?_ (Heap.SameBut.update ..))⟩))
  exact ⟨_, Heap.get?_update_self _ e1 (Obj.isFreed_of_fields (Obj.data_mapFields e3 _)), (Obj.cls_mapFields ..).trans e2, by rw [Obj.data_mapFields e3]; simp [rawInt]⟩

theorem nextT_end {j t : Addr} {i : Nat} {its} {Q : Value → Shared → Prop} (hh : A.handled = none) (jt : s.heap.IsTupleIter j t i) (tt : s.heap.IsTuple t its) (hv : its[i]? = none)
    (q : ∀ g x, Heap.ExtBut j s.heap g → (∃ o, g.get? x = some o ∧ o.cls = .type "StopIteration") → E (.ref x) { s with heap := g }) : wpAny (model prog w) A (Builtin.SmallTypes.nextOf (.ref j)) Q E s := by
  obtain ⟨ob, e1, e2, e3⟩ := id jt
  obtain ⟨ot, g1, _, k, g2⟩ := tt
  unfold Builtin.SmallTypes.nextOf
  refine wpAny_bind (wpAny_callSpecial?_slot (name := Str.ofString "__next__") jt.typeIs F.slot_tuple_iterator_next (wpAny_call_entry F.slot_tuple_iterator_next jt.typeIs F.entry_tuple_iterator_next ?_ (F.args_tuple_iterator_next_1 _)))
  show wpAny _ _ (field (.ref j) 0 >>= _) _ _ s
  refine wpAny_bind (wpAny_field e1 e3 (x := .ref t) rfl ?_)
  show wpAny _ _ (ite ((Value.ref t == Value.none) = true) _ _) _ _ s
  rw [if_neg (fun z : (Value.ref t == Value.none) = true => Bool.false_ne_true z)]
  show wpAny _ _ (field (.ref j) 1 >>= _) _ _ s
  refine wpAny_bind (wpAny_field e1 e3 (x := .int i 0) rfl ?_)
  show wpAny _ _ (seqItems? (.ref t) >>= _) _ _ s
  refine wpAny_bind (wpAny_seqItems g1 g2 ?_)
  simp only [Int.toNat_natCast, hv]
  refine wpAny_bind (wpAny_rule (wpAny_bind (wpAny_setField e1 e3 (by simp) ?_)))
  show wpAny _ _ (newExc (.type "StopIteration") [] >>= _) _ _ _
  refine wpAny_bind ?_
  simp only [newExc, newTuple]
  refine wpAny_bind (wpAny_newObj_type ?_ (by size_fits))
  refine wpAny_bind (m := firstArgMember _ _) (wpAny_of_eq (a := Value.none) (by first | rfl | (unfold firstArgMember; rfl)) ?_)
  refine wpAny_newObj_type ?_ (by size_fits)
  simp only [raiseNew]
  refine wpAny_bind (wpAny_handled ?_)
  first | rw [show A.in1.handled = none from hh] | rw [hh]
  exact wpAny_bind (wpAny_pure (wpAny_throw (q _ _ (((Heap.SameBut.update ..).extBut.push _).push _) ⟨_, Heap.get?_push_size _ rfl, rfl⟩)))

/-- the records of a zip, apart from one another and from what it walks -/
structure ZAp (z TI TO i1 i2 a b : Addr) : Prop where
  p1 : TI ≠ z
  p2 : TO ≠ z
  p3 : i1 ≠ z
  p4 : i2 ≠ z
  p5 : TI ≠ TO
  p6 : TI ≠ i1
  p7 : TI ≠ i2
  p8 : TO ≠ i1
  p9 : TO ≠ i2
  p10 : i1 ≠ i2
  a1 : a ≠ z
  a2 : a ≠ TO
  a3 : a ≠ i1
  a4 : a ≠ i2
  b1 : b ≠ z
  b2 : b ≠ TO
  b3 : b ≠ i1
  b4 : b ≠ i2

end
/-! t * k of a tuple -/
section
open AutoSeq1 (wpAny_loadPart')
end
end L2

/-! zip and t * k, by the layer. -/
namespace L2
open PySem PySem.Spec PyProof.Rows
section
variable {X : Cx}
/-! ### zip(t, l) -/
structure Z5 (z TI TO i1 i2 : Addr) : Prop where
  p1 : TI ≠ z
  p2 : TO ≠ z
  p3 : i1 ≠ z
  p4 : i2 ≠ z
  p5 : TI ≠ TO
  p6 : TI ≠ i1
  p7 : TI ≠ i2
  p8 : TO ≠ i1
  p9 : TO ≠ i2
  p10 : i1 ≠ i2
/-- several records of ours have turned, a new object may be taken -/
theorem Inv.turnAll {pins : List (Addr × Obj)} {σ : St} {H H' : Hp} {s : Shared} {g : Heap} {ch : List Addr} (I : Inv X pins σ H s) (hf : ∀ b ∈ ch, FpOk X pins H b)
    (k : ∀ b o, b ∉ ch → s.heap.get? b = some o → g.get? b = some o) (hH : ∀ b u, H b = some u → H' b = some u) (hN : ∀ b o, s.heap.get? b = some o → H b = none → H' b = none) (hok : HOk X.prog X.w H' g) : Inv X pins σ H' { s with heap := g } := by
  refine I.step (g' := s.gens) (d' := s.drawn) (t' := s.toks) (ch := ch) (fun b hb => ?_) (fun b o _ _ hc e _ => k b o hc e) (fun b o _ _ hc e _ => ⟨o.slots, k b o hc e⟩) (fun b o _ e n => hN b o e n)
    (fun b o hc e => ⟨o, k b o hc e⟩) (fun b xs e => hH b _ e) (fun b o u e => hH b _ e) (fun b ps e => ⟨#[], by rw [hH b _ e]; simp⟩) (fun m hm => ?_) hok I.bare
  · obtain ⟨_, f1, _, f3, f4, f5⟩ := hf b hb
    exact ⟨f3, f1, f4, f5⟩
  · obtain ⟨o, es, ep, ho, r⟩ := hm
    exact ⟨o, es, ep, k _ o (fun hb => (hf _ hb).2.1 rfl) ho, r⟩
end
end L2

/-! loops over zip, by a word; {} -/
namespace L2
open PySem PySem.Spec PyProof.Rows
theorem Same.put {H H1 : Hp} (e : Same H H1) {p : Addr} {o : HO} (h : H1 p = none) : Same H (upd H1 p o) := fun b u q => by rw [upd_ne (ne_of_none (e b u q) h)]; exact e b u q
section
variable {X : Cx} {pins : List (Addr × Obj)} {σ : St} {H : Hp} {s : Shared} {pos : Pos}
theorem Inv.big (I : Inv X pins σ H s) : sysModules < s.heap.objs.size := by
  have h : mainGlobals < s.heap.objs.size := (I.mod.glob.keeps I.bk).lt
  exact Nat.lt_trans (by decide) h
theorem dk_empty {P : Program} {w : World} {H : Hp} (h : Heap) (hb : sysModules < h.objs.size) : ObjOk P w H (h.push { cls := .type "dict", data := .dict #[] }) h.objs.size (.dK []) :=
  ⟨Nat.zero_le _, beq_eq_false_iff_ne.mpr (Ne.symm (Nat.ne_of_lt hb)), [], .nil, Heap.DictOf.new h⟩
def tDNewK : TE := fun _ H Q => ∀ p, H p = none → Q (.ref p) (upd H p (.dK []))
theorem pe_dnewK : PE X (.Dict [] [] pos) tDNewK := fun pins s σ H Q I h =>
  wpAny_Dict_empty ⟨.ref s.heap.objs.size, _, I.laid (a := s.heap.objs.size) (o := .dK []) (t' := s.toks) (fun _ _ q => Heap.get?_push_of_some _ q) (Nat.le_refl _) (dk_empty s.heap I.big), rfl, h _ (I.hok.fresh (Nat.le_refl _))⟩
end
end L2

/-! made things, the heap behind them a letter -/
namespace L2
open PySem PySem.Spec PyProof.Rows
section
variable {X : Cx}
theorem PE.imp {e : Expr} {t t' : TE} (h : PE X e t) (i : ∀ σ H Q, t' σ H Q → t σ H Q) : PE X e t' := fun pins s σ H Q I q => h pins s σ H Q I (i σ H Q q)
theorem OpR.imp {f : Value → Value → Sem Value} {r r' : R2} (h : OpR X f r) (i : ∀ x y H Q, r' x y H Q → r x y H Q) : OpR X f r' := fun pins s σ H x y v u Q I rx ry q => h pins s σ H x y v u Q I rx ry (i x y H Q q)
theorem CallR.imp {f : Value} {r r' : List V → Hp → VK → Prop} (h : CallR X f r) (i : ∀ xs H Q, r' xs H Q → r xs H Q) : CallR X f r' := fun pins s σ H xs us Q I rv q => h pins s σ H xs us Q I rv (i xs H Q q)
def tACut (t : TA) : TA := fun σ H R => ∃ R' : List V → Hp → Prop, (∀ xs H, R' xs H → R xs H) ∧ t σ H R'
theorem PA.cut {es : List Expr} {t : TA} (h : PA X es t) : PA X es (tACut t) := fun pos pins s σ H Q I ⟨R', i, q⟩ =>
  thn (h pos pins s σ H R' I q) fun us s' ⟨vs, H', I', rv, q'⟩ => ⟨vs, H', I', rv, i _ _ q'⟩
/-- an object is new at p, all else stands -/
def New (H : Hp) (o : HO) (Q : VK) : Prop := ∀ p H', Same H H' → H' p = some o → Q (.ref p) H'
theorem New.of {H : Hp} {o : HO} {Q : VK} (h : New H o Q) : ∀ p, H p = none → Q (.ref p) (upd H p o) := fun p hp => h p _ (Same.put (Same.refl H) hp) upd_same
def tTupA (t : TA) : TE := fun σ H Q => t σ H fun xs H1 => xs.length ≤ sizeLine ∧ New H1 (.tup xs) Q
def tLstA (t : TA) : TE := fun σ H Q => t σ H fun xs H1 => xs.length ≤ sizeLine ∧ New H1 (.lst xs) Q
theorem pe_tupA {es : List Expr} {t : TA} {x1} {pos : Pos} (h : PA X es t) : PE X (.Tuple es x1 pos) (tTupA t) := (pe_tup h.cut).imp fun _ _ _ q => ⟨_, fun _ _ z => ⟨z.1, z.2.of⟩, q⟩
theorem pe_lstA {es : List Expr} {t : TA} {pos : Pos} (h : PA X es t) : PE X (.List es pos) (tLstA t) := (pe_lst h.cut).imp fun _ _ _ q => ⟨_, fun _ _ z => ⟨z.1, z.2.of⟩, q⟩
theorem pe_dnewA {pos : Pos} : PE X (.Dict [] [] pos) (fun _ H Q => New H (.dK []) Q) := pe_dnewK.imp fun _ _ _ q => q.of
theorem op_catL : OpR X (binaryOp .Add) (fun x y H Q => ∃ l b xs zs, x = .ref l ∧ y = .ref b ∧ H l = some (.lst xs) ∧ H b = some (.lst zs) ∧ xs.length + zs.length ≤ sizeLine ∧ New H (.lst (xs ++ zs)) Q) :=
  op_cat.imp fun _ _ _ _ ⟨l, b, xs, zs, e1, e2, e3, e4, e5, q⟩ => ⟨l, b, xs, zs, e1, e2, e3, e4, e5, q.of⟩
end
end L2

/-! DATA: None, truths, ints, texts, and tuples of these (lists and dicts by their sort alone); what a value is in a heap; == of data, however deep. -/
namespace L2
open PySem PySem.Spec PyProof.Rows

inductive Dt where
  | non | bl (b : Bool) | int (i : Int) | str (x : Str) | tup (ds : List Dt) | oth (T : String)
mutual
inductive IsD (H : Hp) : V → Dt → Prop where
  | non : IsD H .non .non
  | bl (b : Bool) : IsD H (.bl b) (.bl b)
  | int (i : Int) : IsD H (.int i) (.int i)
  | str (x : Str) : IsD H (.str x) (.str x)
  | tup {a : Addr} {xs : List V} {ds : List Dt} (h : H a = some (.tup xs)) (r : IsDs H xs ds) : IsD H (.ref a) (.tup ds)
  | lst {a : Addr} {xs : List V} (h : H a = some (.lst xs)) : IsD H (.ref a) (.oth "list")
  | dct {a : Addr} {kvs : List (Key × V)} (h : H a = some (.dK kvs)) : IsD H (.ref a) (.oth "dict")
inductive IsDs (H : Hp) : List V → List Dt → Prop where
  | nil : IsDs H [] []
  | cons {x : V} {d : Dt} {xs : List V} {ds : List Dt} (h : IsD H x d) (r : IsDs H xs ds) : IsDs H (x :: xs) (d :: ds)
end
mutual
theorem IsD.same {H H' : Hp} (e : Same H H') : ∀ {v : V} {d : Dt}, IsD H v d → IsD H' v d
  | _, _, .non => .non
  | _, _, .bl b => .bl b
  | _, _, .int i => .int i
  | _, _, .str x => .str x
  | _, _, .tup h r => .tup (e _ _ h) (IsDs.same e r)
  | _, _, .lst h => .lst (e _ _ h)
  | _, _, .dct h => .dct (e _ _ h)
theorem IsDs.same {H H' : Hp} (e : Same H H') : ∀ {vs : List V} {ds : List Dt}, IsDs H vs ds → IsDs H' vs ds
  | _, _, .nil => .nil
  | _, _, .cons h r => .cons (IsD.same e h) (IsDs.same e r)
end
theorem IsD.injs {H : Hp} : ∀ n : Nat, (∀ (v : V) (d e : Dt), sizeOf d ≤ n → IsD H v d → IsD H v e → d = e) ∧ (∀ (vs : List V) (ds es : List Dt), sizeOf ds ≤ n → IsDs H vs ds → IsDs H vs es → ds = es) := by
  intro n
  induction n with
  | zero =>
    refine ⟨fun v d e h => ?_, fun vs ds es h => ?_⟩
    · cases d <;> simp at h
    · cases ds <;> simp at h
  | succ n ih =>
    refine ⟨fun v d e hn h k => ?_, fun vs ds es hn h k => ?_⟩
    · cases h with
      | non => cases k; rfl
      | bl b => cases k; rfl
      | int i => cases k; rfl
      | str x => cases k; rfl
      | tup h r =>
        cases k with
        | tup h' r' => rw [h] at h'; cases h'; rw [ih.2 _ _ _ (by simp at hn; omega) r r']
        | lst h' => rw [h] at h'; cases h'
        | dct h' => rw [h] at h'; cases h'
      | lst h =>
        cases k with
        | tup h' r' => rw [h] at h'; cases h'
        | lst h' => rfl
        | dct h' => rw [h] at h'; cases h'
      | dct h =>
        cases k with
        | tup h' r' => rw [h] at h'; cases h'
        | lst h' => rw [h] at h'; cases h'
        | dct h' => rfl
    · cases h with
      | nil => cases k; rfl
      | cons h r =>
        cases k with
        | cons h' r' => rw [ih.1 _ _ _ (by simp at hn; omega) h h', ih.2 _ _ _ (by simp at hn; omega) r r']
theorem IsD.inj {H : Hp} {v : V} {d e : Dt} (h : IsD H v d) (k : IsD H v e) : d = e := (IsD.injs _).1 v d e (Nat.le_refl _) h k
section
variable {H : Hp}
theorem IsDs.length : ∀ {xs : List V} {ds : List Dt}, IsDs H xs ds → xs.length = ds.length
  | _, _, .nil => rfl
  | _, _, .cons _ r => by rw [List.length_cons, List.length_cons, IsDs.length r]
theorem IsDs.get : ∀ {xs : List V} {ds : List Dt} {i : Nat} {x : V}, IsDs H xs ds → xs[i]? = some x → ∃ d, ds[i]? = some d ∧ IsD H x d
  | _, _, _, _, .nil, e => by simp at e
  | _, _, 0, _, .cons h _, e => by simp at e; subst e; exact ⟨_, rfl, h⟩
  | _, _, i + 1, x, .cons _ r, e => by
    obtain ⟨d, h1, h2⟩ := IsDs.get (i := i) (x := x) r (by simpa using e)
    exact ⟨d, by simpa using h1, h2⟩
theorem IsDs.at : ∀ {xs : List V} {ds : List Dt} {i : Nat} {d : Dt}, IsDs H xs ds → ds[i]? = some d → ∃ x, xs[i]? = some x ∧ IsD H x d
  | _, _, _, _, .nil, e => by simp at e
  | _, _, 0, _, .cons h _, e => by simp at e; subst e; exact ⟨_, rfl, h⟩
  | _, _, i + 1, d, .cons _ r, e => by
    obtain ⟨x, h1, h2⟩ := IsDs.at (i := i) (d := d) r (by simpa using e)
    exact ⟨x, by simpa using h1, h2⟩
theorem IsDs.append : ∀ {xs ys : List V} {ds es : List Dt}, IsDs H xs ds → IsDs H ys es → IsDs H (xs ++ ys) (ds ++ es)
  | _, _, _, _, .nil, s => s
  | _, _, _, _, .cons h r, s => .cons h (IsDs.append r s)
theorem IsDs.take : ∀ {xs : List V} {ds : List Dt} (n : Nat), IsDs H xs ds → IsDs H (xs.take n) (ds.take n)
  | _, _, 0, _ => .nil
  | _, _, _ + 1, .nil => .nil
  | _, _, n + 1, .cons h r => .cons h (IsDs.take n r)
theorem IsDs.drop : ∀ {xs : List V} {ds : List Dt} (n : Nat), IsDs H xs ds → IsDs H (xs.drop n) (ds.drop n)
  | _, _, 0, r => r
  | _, _, _ + 1, .nil => .nil
  | _, _, n + 1, .cons _ r => IsDs.drop n r
theorem IsDs.ints : ∀ (ns : List Int), IsDs H (ns.map V.int) (ns.map Dt.int)
  | [] => .nil
  | n :: r => .cons (.int n) (IsDs.ints r)
theorem IsDs.ints_of : ∀ {xs : List V} {ns : List Int}, IsDs H xs (ns.map Dt.int) → xs = ns.map V.int
  | _, [], .nil => rfl
  | _, n :: r, .cons h q => by cases h; rw [IsDs.ints_of q]; rfl
theorem IsD.tup_of {v : V} {ds : List Dt} (h : IsD H v (.tup ds)) : ∃ a xs, v = .ref a ∧ H a = some (.tup xs) ∧ IsDs H xs ds := by
  cases h with
  | tup h r => exact ⟨_, _, rfl, h, r⟩
theorem IsD.int_of {v : V} {i : Int} (h : IsD H v (.int i)) : v = .int i := by cases h; rfl
end
/-- its sort -/
def Dt.ty : Dt → String
  | .non => "NoneType" | .bl _ => "bool" | .int _ => "int" | .str _ => "str" | .tup _ => "tuple" | .oth T => T
theorem IsD.tyn {H : Hp} {v : V} {d : Dt} (h : IsD H v d) : tyn H v = some d.ty := by
  cases h with
  | tup h r => simp only [L2.tyn]; rw [h]; rfl
  | lst h => simp only [L2.tyn]; rw [h]; rfl
  | dct h => simp only [L2.tyn]; rw [h]; rfl
  | _ => rfl

/-! ### == of data -/
mutual
def eqD : Dt → Dt → Bool
  | .non, .non => true
  | .bl a, .bl b => a == b
  | .bl a, .int b => (if a then 1 else 0) == b
  | .int a, .bl b => a == (if b then 1 else 0)
  | .int a, .int b => a == b
  | .str a, .str b => a == b
  | .tup xs, .tup ys => eqDs xs ys
  | _, _ => false
def eqDs : List Dt → List Dt → Bool
  | [], [] => true
  | x :: xs, y :: ys => eqD x y && eqDs xs ys
  | _, _ => false
end
mutual
def pl : Dt → Bool
  | .oth _ => false
  | .tup ds => pls ds
  | _ => true
def pls : List Dt → Bool
  | [] => true
  | d :: ds => pl d && pls ds
end
mutual
def dep : Dt → Nat
  | .tup ds => deps ds + 1
  | _ => 0
def deps : List Dt → Nat
  | [] => 0
  | d :: ds => max (dep d) (deps ds)
end
mutual
theorem eqD_refl : ∀ d : Dt, pl d = true → eqD d d = true
  | .non, _ => by unfold eqD; rfl
  | .bl b, _ => by unfold eqD; exact beq_self_eq_true b
  | .int i, _ => by unfold eqD; exact beq_self_eq_true i
  | .str x, _ => by unfold eqD; exact beq_self_eq_true x
  | .tup ds, h => by
    unfold eqD
    unfold pl at h
    exact eqDs_refl ds h
  | .oth T, h => by unfold pl at h; cases h
theorem eqDs_refl : ∀ ds : List Dt, pls ds = true → eqDs ds ds = true
  | [], _ => by unfold eqDs; rfl
  | d :: ds, h => by
    unfold eqDs
    unfold pls at h
    rw [Bool.and_eq_true] at h
    rw [eqD_refl d h.1, eqDs_refl ds h.2]; rfl
end
theorem eqD_tup (xs ys : List Dt) : eqD (.tup xs) (.tup ys) = eqDs xs ys := by unfold eqD; rfl
theorem eqDs_all : ∀ (ds es : List Dt), eqDs ds es = ((List.range (min ds.length es.length)).all (fun j => eqD (ds.getD j .non) (es.getD j .non)) && ds.length == es.length)
  | [], [] => by unfold eqDs; rfl
  | [], e :: es => by unfold eqDs; simp
  | d :: ds, [] => by unfold eqDs; simp
  | d :: ds, e :: es => by
    unfold eqDs
    rw [eqDs_all ds es]
    rw [List.length_cons, List.length_cons]
    have h1 : min (ds.length + 1) (es.length + 1) = min ds.length es.length + 1 := by omega
    rw [h1, List.range_succ_eq_map, List.all_cons, List.all_map]
    have h2 : ((ds.length + 1) == (es.length + 1)) = (ds.length == es.length) := by rw [Bool.eq_iff_iff]; simp
    rw [h2, Bool.and_assoc]
    rfl
theorem pls_get : ∀ {ds : List Dt} {i : Nat} {d : Dt}, pls ds = true → ds[i]? = some d → pl d = true
  | [], _, _, _, e => by simp at e
  | d :: ds, 0, _, h, e => by
    unfold pls at h
    rw [Bool.and_eq_true] at h
    simp at e; subst e; exact h.1
  | d :: ds, i + 1, x, h, e => by
    unfold pls at h
    rw [Bool.and_eq_true] at h
    exact pls_get (i := i) h.2 (by simpa using e)
theorem deps_get : ∀ {ds : List Dt} {i : Nat} {d : Dt}, ds[i]? = some d → dep d ≤ deps ds
  | [], _, _, e => by simp at e
  | d :: ds, 0, _, e => by
    simp at e; subst e
    unfold deps
    exact Nat.le_max_left _ _
  | d :: ds, i + 1, x, e => by
    have := deps_get (ds := ds) (i := i) (d := x) (by simpa using e)
    unfold deps
    exact Nat.le_trans this (Nat.le_max_right _ _)

section
variable {X : Cx} {pins : List (Addr × Obj)} {σ : St} {H : Hp} {s : Shared}
theorem Inv.tupD {v : V} {ds : List Dt} {u : Value} (I : Inv X pins σ H s) (h : IsD H v (.tup ds)) (r : RelV v u) : ∃ a its, u = .ref a ∧ v = .ref a ∧ s.heap.IsTuple a its.toArray ∧ ∃ xs, Vals xs its ∧ IsDs H xs ds ∧ its.length = ds.length := by
  obtain ⟨a, xs, rfl, ha, hd⟩ := h.tup_of
  cases (show u = Value.ref a from r)
  obtain ⟨its, rv, p, _⟩ := I.tuple (SqT.of (K := X.K) ha)
  exact ⟨a, its, rfl, rfl, p, xs, rv, hd, by rw [← rv.length, hd.length]⟩
/-- == of two data, at any depth -/
theorem eqAt_D : ∀ (n : Nat) {A : Around} {x y : V} {u v : Value} {d e : Dt}, dep d ≤ n → A.units + n < cLine → Inv X pins σ H s → IsD H x d → IsD H y e → RelV x u → RelV y v → pl d = true → pl e = true → SeqAt.EqAt A s u v (eqD d e) := by
  intro n
  induction n with
  | zero =>
    intro A x y u v d e hd hu I ix iy rx ry px py
    cases ix with
    | tup h r => unfold dep at hd; omega
    | lst h => unfold pl at px; cases px
    | dct h => unfold pl at px; cases px
    | non =>
      cases iy with
      | tup h' r' =>
        obtain ⟨a, its, rfl, _, hb, _⟩ := I.tupD (.tup h' r') ry
        cases rx
        exact SeqAt.EqAt.none_tuple hb (by omega)
      | lst h' => unfold pl at py; cases py
      | dct h' => unfold pl at py; cases py
      | non => exact eqAt_V rx ry rfl rfl
      | bl b => exact eqAt_V rx ry rfl rfl
      | int b => exact eqAt_V rx ry rfl rfl
      | str b => exact eqAt_V rx ry rfl rfl
    | bl b =>
      cases iy with
      | tup h' r' =>
        obtain ⟨a, its, rfl, _, hb, _⟩ := I.tupD (.tup h' r') ry
        cases rx
        exact SeqAt.EqAt.bool_tuple b hb (by omega)
      | lst h' => unfold pl at py; cases py
      | dct h' => unfold pl at py; cases py
      | non => exact eqAt_V rx ry rfl rfl
      | bl b => exact eqAt_V rx ry rfl rfl
      | int b => exact eqAt_V rx ry rfl rfl
      | str b => exact eqAt_V rx ry rfl rfl
    | int i =>
      cases iy with
      | tup h' r' =>
        obtain ⟨a, its, rfl, _, hb, _⟩ := I.tupD (.tup h' r') ry
        obtain ⟨t, rfl⟩ := rx
        exact SeqAt.EqAt.int_tuple i t hb (by omega)
      | lst h' => unfold pl at py; cases py
      | dct h' => unfold pl at py; cases py
      | non => exact eqAt_V rx ry rfl rfl
      | bl b => exact eqAt_V rx ry rfl rfl
      | int b => exact eqAt_V rx ry rfl rfl
      | str b => exact eqAt_V rx ry rfl rfl
    | str z =>
      cases iy with
      | tup h' r' =>
        obtain ⟨a, its, rfl, _, hb, _⟩ := I.tupD (.tup h' r') ry
        obtain ⟨t, rfl⟩ := rx
        exact SeqAt.EqAt.str_tuple z t hb (by omega)
      | lst h' => unfold pl at py; cases py
      | dct h' => unfold pl at py; cases py
      | non => exact eqAt_V rx ry rfl rfl
      | bl b => exact eqAt_V rx ry rfl rfl
      | int b => exact eqAt_V rx ry rfl rfl
      | str b => exact eqAt_V rx ry rfl rfl
  | succ n ih =>
    intro A x y u v d e hd hu I ix iy rx ry px py
    by_cases hz : dep d = 0
    · -- no tuple: as above
      cases ix with
      | tup h r => unfold dep at hz; omega
      | lst h => unfold pl at px; cases px
      | dct h => unfold pl at px; cases px
      | non => exact ih (by rw [hz]; exact Nat.zero_le _) (by omega) I .non iy rx ry px py
      | bl b => exact ih (by rw [hz]; exact Nat.zero_le _) (by omega) I (.bl b) iy rx ry px py
      | int i => exact ih (by rw [hz]; exact Nat.zero_le _) (by omega) I (.int i) iy rx ry px py
      | str z => exact ih (by rw [hz]; exact Nat.zero_le _) (by omega) I (.str z) iy rx ry px py
    · cases ix with
      | lst h => unfold pl at px; cases px
      | dct h => unfold pl at px; cases px
      | non => exact absurd (by unfold dep; rfl) hz
      | bl b => exact absurd (by unfold dep; rfl) hz
      | int i => exact absurd (by unfold dep; rfl) hz
      | str z => exact absurd (by unfold dep; rfl) hz
      | tup h r =>
        rename_i a xs ds
        cases (show u = Value.ref a from rx)
        obtain ⟨its, rv, p, _⟩ := I.tuple (SqT.of (K := X.K) h)
        have p : s.heap.IsTuple a its.toArray := p
        cases iy with
        | lst h' => unfold pl at py; cases py
        | dct h' => unfold pl at py; cases py
        | non => cases ry; exact SeqAt.EqAt.tuple_none p (by omega)
        | bl b => cases ry; exact SeqAt.EqAt.tuple_bool b p (by omega)
        | int b => obtain ⟨t, rfl⟩ := ry; exact SeqAt.EqAt.tuple_int b t p (by omega)
        | str b => obtain ⟨t, rfl⟩ := ry; exact SeqAt.EqAt.tuple_str b t p (by omega)
        | tup h' r' =>
          rename_i b ys es
          cases (show v = Value.ref b from ry)
          by_cases hab : a = b
          · subst hab
            have e1 : Dt.tup ds = Dt.tup es := IsD.inj (.tup h r) (.tup h' r')
            rw [e1]
            rw [eqD_refl _ py]
            exact SeqAt.EqAt.same _
          · obtain ⟨its2, rv2, p2, _⟩ := I.tuple (SqT.of (K := X.K) h')
            have p2 : s.heap.IsTuple b its2.toArray := p2
            have l1 : its.length = ds.length := by rw [← rv.length, r.length]
            have l2 : its2.length = es.length := by rw [← rv2.length, r'.length]
            have pd : pls ds = true := by unfold pl at px; exact px
            have pe : pls es = true := by unfold pl at py; exact py
            have hd' : deps ds ≤ n := by unfold dep at hd; omega
            have key := SeqAt.RcAt.tuples (A := A) (e := fun j => eqD (ds.getD j .non) (es.getD j .non)) p p2 (by omega) fun j h1 h2 => by
              have h1' : j < its.length := by simpa using h1
              have h2' : j < its2.length := by simpa using h2
              obtain ⟨x', ex, dx⟩ := r.at (i := j) (d := ds[j]'(by omega)) (List.getElem?_eq_getElem (by omega))
              obtain ⟨y', ey, dy⟩ := r'.at (i := j) (d := es[j]'(by omega)) (List.getElem?_eq_getElem (by omega))
              obtain ⟨u', eu, ru⟩ := rv.get ex
              obtain ⟨v', ev, rw'⟩ := rv2.get ey
              have eu' : its[j] = u' := by rw [List.getElem?_eq_getElem h1'] at eu; exact Option.some.inj eu
              have ev' : its2[j] = v' := by rw [List.getElem?_eq_getElem h2'] at ev; exact Option.some.inj ev
              have g1 : ds.getD j .non = ds[j]'(by omega) := by rw [List.getD_eq_getElem?_getD, List.getElem?_eq_getElem (by omega)]; rfl
              have g2 : es.getD j .non = es[j]'(by omega) := by rw [List.getD_eq_getElem?_getD, List.getElem?_eq_getElem (by omega)]; rfl
              show SeqAt.EqAt A.in1 s (its.toArray[j]) (its2.toArray[j]) (eqD (ds.getD j .non) (es.getD j .non))
              rw [List.getElem_toArray, List.getElem_toArray, eu', ev', g1, g2]
              exact ih (Nat.le_trans (deps_get (List.getElem?_eq_getElem (by omega))) hd') (by show A.units + 1 + n < cLine; omega) I dx dy ru rw' (pls_get pd (List.getElem?_eq_getElem (by omega))) (pls_get pe (List.getElem?_eq_getElem (by omega)))
            have e2 : eqD (.tup ds) (.tup es) = ((List.range (min its.toArray.size its2.toArray.size)).all (fun j => eqD (ds.getD j .non) (es.getD j .non)) && its.toArray.size == its2.toArray.size) := by
              rw [eqD_tup, eqDs_all, List.size_toArray, List.size_toArray, l1, l2]
            rw [e2]
            exact SeqAt.EqAt.of_refs hab key
end
end L2

/-! TEXTS: join, split, int of a text, f-strings, a text's signs; comprehensions over lists, ranges and texts; tuple(list). -/
namespace L2
open PySem PySem.Spec PyProof.Rows
section
variable {X : Cx}
/-- tuple(list) -/
theorem call_tupA : CallR X (.type "tuple") (fun xs H Q => ∃ p ys, xs = [.ref p] ∧ SqL X.K H p ys ∧ New H (.tup ys) Q) :=
  call_tuple_of.imp fun _ _ _ ⟨p, ys, e, h, q⟩ => ⟨p, ys, e, .inl ⟨h, q.of⟩⟩
/-! ### f-strings of ints and texts -/
/-! ### the signs of a text -/
/-! ### isinstance(x, str) -/
end

/-! ### comprehensions: over a list, a range, a text -/
theorem comp_list {K : PySem.W.Frag} {a : Addr} {xs : List V} {js : List Nat} {tt : TT} {te : TE} {σ : St} {H : Hp} {Q : VK} (Pv : Nat → List V → Hp → Prop) (h0 : Pv 0 [] H) (hl : ∀ i ys H, i ≤ xs.length → Pv i ys H → SqL K H a xs ∧ ys.length ≤ i) (hz : xs.length ≤ sizeLine)
    (hs : ∀ i x ys H, xs[i]? = some x → Pv i ys H → tt (some x :: blockSt σ js) H fun b H4 => if b = true then te (some x :: blockSt σ js) H4 fun y H5 => Pv (i + 1) (ys ++ [y]) H5 else Pv (i + 1) ys H4)
    (hd : ∀ ys H, Pv xs.length ys H → ∀ D, H D = none → Q (.ref D) (upd H D (.lst ys))) : CompW js tt te σ Q (Itl K a) H := by
  refine ⟨fun i m ys H => i ≤ xs.length ∧ m = xs.length - i ∧ Pv i ys H, ⟨_, Nat.zero_le _, rfl, h0⟩, fun i m ys H2 hz0 => ?_⟩
  obtain ⟨hi, hm, hp⟩ := hz0
  obtain ⟨hq, hy⟩ := hl i ys H2 hi hp
  by_cases e : i = xs.length
  · subst e
    exact .inl ⟨⟨xs, hq, Nat.le_refl _⟩, hd ys H2 hp⟩
  · have hlt : i < xs.length := Nat.lt_of_le_of_ne hi e
    refine .inr ⟨⟨xs, _, hq, List.getElem?_eq_getElem hlt⟩, by omega, Pv (i + 1), fun ys' H' hp' => ⟨xs.length - (i + 1), by omega, by omega, rfl, hp'⟩, fun x H3 hy3 => ?_⟩
    obtain ⟨e3, hx⟩ := hy3
    subst e3
    exact hs i x ys H3 (hx xs hq) hp
theorem comp_range {lo : Int} {n : Nat} {js : List Nat} {tt : TT} {te : TE} {σ : St} {H : Hp} {Q : VK} (Pv : Nat → List V → Hp → Prop) (h0 : Pv 0 [] H) (hl : ∀ i ys H, i ≤ n → Pv i ys H → ys.length ≤ i) (hz : n ≤ sizeLine)
    (hs : ∀ (i : Nat) ys H, i < n → Pv i ys H → tt (some (.int (lo + i)) :: blockSt σ js) H fun b H4 => if b = true then te (some (.int (lo + i)) :: blockSt σ js) H4 fun y H5 => Pv (i + 1) (ys ++ [y]) H5 else Pv (i + 1) ys H4)
    (hd : ∀ ys H, Pv n ys H → ∀ D, H D = none → Q (.ref D) (upd H D (.lst ys))) : CompW js tt te σ Q (Itr lo n) H := by
  refine ⟨fun i m ys H => i ≤ n ∧ m = n - i ∧ Pv i ys H, ⟨_, Nat.zero_le _, rfl, h0⟩, fun i m ys H2 hz0 => ?_⟩
  obtain ⟨hi, hm, hp⟩ := hz0
  have hy := hl i ys H2 hi hp
  by_cases e : i = n
  · subst e
    exact .inl ⟨Nat.le_refl _, hd ys H2 hp⟩
  · have hlt : i < n := Nat.lt_of_le_of_ne hi e
    refine .inr ⟨hlt, by omega, Pv (i + 1), fun ys' H' hp' => ⟨n - (i + 1), by omega, by omega, rfl, hp'⟩, fun x H3 hy3 => ?_⟩
    obtain ⟨e3, hx⟩ := hy3
    subst e3 hx
    exact hs i ys H3 hlt hp
end L2

/-! enumerate(t) of a tuple, walked by a loop with two targets. -/
namespace L2
open PySem PySem.Spec PyProof.Rows
section
variable {prog : Program} {w : World} {A : Around} {E : Value → Shared → Prop} {s : Shared}
end
section
open AutoSeq1 (wpAny_loadPart')
end
/-! ### by the layer -/
section
variable {X : Cx}
end
end L2

/-! EXCEPTIONS of own classes: raise, the way up through frames, except. -/
namespace L2
open PySem PySem.Spec PyProof.Rows
theorem ObjOk.seat {P : Program} {w : World} {H : Hp} {h : Heap} {a : Addr} {o : HO} (x : ObjOk P w H h a o) : ∃ u, h.get? a = some u := by
  cases o with
  | lst xs => obtain ⟨_, _, _, _, e⟩ := x; exact ⟨_, e⟩
  | tup xs => obtain ⟨_, _, _, u, e, _⟩ := x; exact ⟨u, e⟩
  | dK kvs => obtain ⟨_, _, _, _, u, _, _, e, _⟩ := x; exact ⟨u, e⟩
  | dT kvs => obtain ⟨_, _, _, _, u, _, _, e, _⟩ := x; exact ⟨u, e⟩
  | set S n => obtain ⟨u, _, _, _, e, _⟩ := x; exact ⟨u, e⟩
  | ins C dx fs => obtain ⟨_, _, _, e, _⟩ := x; exact ⟨_, e⟩
  | own y => exact x
  | xd fs => obtain ⟨_, ⟨u, _, _, e, _⟩, _⟩ := x; exact ⟨u, e⟩
  | rng lo hi => obtain ⟨_, _, _, e⟩ := x; exact ⟨_, e⟩
  | frz ob u => exact ⟨_, x.1⟩
  | tbl ps => exact ⟨_, (show h.get? a = some _ from x)⟩
  | met f y => exact ⟨_, (show h.get? a = some _ from x)⟩
  | ext φ => exact x.2.1
/-- an exception in the air over the frames l: all of B stands; it is traced, its mark is anything; dct its own dict -/
structure Aloft (B : Heap) (l : List Env) (x : Addr) (cls : Value) (dct : Option Addr) (h : Heap) : Prop where
  st : B.StaysIn h
  no : B.get? x = none
  fr : h.FunFrames B l
  tr : ∃ a0 fl, h.TracedAtW B x cls a0 fl
  dc : ∃ o, h.get? x = some o ∧ o.dict = dct
theorem mapFields_dict (f : Array Value → Array Value) (o : Obj) : (Obj.mapFields f o).dict = o.dict := by
  obtain ⟨a, b, c, d⟩ := o
  cases c <;> rfl
section
variable {M : Model} {A : Around} {E : Value → Shared → Prop} {s : Shared} {B : Heap} {env : Env} {outer l : List Env} {L x : Addr} {cls : Value} {dct : Option Addr}
/-- one entry more in its trace -/
theorem entry_any {ox : Obj} {us : Array Value} {top z0 : Value} {nx : Bool} {Q : Unit → Shared → Prop} (hfr : A.frames = some (env :: outer)) (fr : s.heap.FunFrames B (env :: outer)) (hf : env.frame = some L) (e1 : s.heap.get? x = some ox) (st : B.StaysIn s.heap) (no : B.get? x = none)
    (ed : ox.data = .fields us) (big : 1 < us.size) (e0 : us[0]? = some z0) (q : ∀ g, Aloft B (env :: outer) x ox.cls ox.dict g → s.heap.UpToSlots g → Q () { s with heap := g }) :
    wpAny M A (do let a ← frameOf env; let pl ← entryPlaceOf L nx; let b ← EntryCells.newEntry top a .none (rawInt L) .none pl; setField (.ref x) 1 b) Q E s := by
  have away : x ∉ (env :: outer).filterMap (·.frame) := by
    intro z
    obtain ⟨_, o, p, r⟩ := fr.mem z
    rw [e1] at p
    cases p
    exact r us ed
  refine wpAny_bind (wpAny_frameOf_fun hfr fr hf fun h1 k1 => wpAny_bind (wpAny_entryPlaceOf fun pl isp => ?_))
  unfold EntryCells.newEntry newFields
  refine wpAny_bind (wpAny_newObj_type ?_ (isp.sizeOk5 _ _ _ _ _))
  have x1 : h1.get? x = some ox := (k1.2.1 x away).trans e1
  have st1 : B.StaysIn h1 := fun b o p => (k1.2.1 b fun z => by rw [(fr.mem z).1] at p; cases p).trans (st b o p)
  generalize hT : ({ cls := .type "traceback", dict := none, data := .fields ([top, .ref L, .none, rawInt L, .none] ++ (if pl.isEmpty then List.replicate 6 Value.none else pl)).toArray } : Obj) = T
  have dT : T.data = .fields ([top, .ref L, .none, rawInt L, .none] ++ (if pl.isEmpty then List.replicate 6 Value.none else pl)).toArray := by rw [← hT]
  have x2 := Heap.get?_push_of_some (h := h1) T x1
  have far : h1.objs.size ≠ x := Nat.ne_of_gt (Heap.lt_size x1)
  have d3 := Obj.data_mapFields ed (·.setIfInBounds 1 (Value.ref h1.objs.size))
  have x3 := Heap.get?_update_self (Obj.mapFields (·.setIfInBounds 1 (Value.ref h1.objs.size))) x2 (Obj.isFreed_of_fields d3)
  have t3 := (Heap.get?_update_other (h1.push T) (Obj.mapFields (·.setIfInBounds 1 (Value.ref h1.objs.size))) far.symm).trans (Heap.get?_push_size h1 (by rw [← hT]; rfl))
  have stay : ∀ b o, b ≠ x → h1.get? b = some o → ((h1.push T).update x (Obj.mapFields (·.setIfInBounds 1 (Value.ref h1.objs.size)))).get? b = some o := fun b o n p => by
    rw [Heap.get?_update_other _ _ n.symm]
    exact Heap.get?_push_of_some _ p
  have notx : ∀ b o, s.heap.get? b = some o → (∀ vs, o.data ≠ .fields vs) → b ≠ x := fun b o p r z => by
    rw [z, e1] at p
    cases p
    exact r us ed
  refine wpAny_setField x2 ed big (q _ ⟨fun b o p => stay b o (fun z => by rw [z, no] at p; cases p) (st1 b o p), no, fr.of_keeps fun b o p r => ?_, ⟨z0, rawInt L, ?_⟩, ⟨_, x3, mapFields_dict _ _⟩⟩ fun b o p r => ?_)
  · obtain ⟨sl, p2⟩ := k1.2.2 b o p
    exact ⟨_, stay b _ (notx b o p r) p2, rfl⟩
  · exact ⟨_, _, h1.objs.size, T, _, x3, ⟨Obj.cls_mapFields _ _, by rw [Array.getElem?_setIfInBounds_ne (by decide)]; exact e0⟩, d3, by simp [big], st1.fresh, far, t3, dT, by first | (simp; done) | (rcases isp with rfl | ⟨_, _, _, _, _, _, _, rfl⟩ <;> simp)⟩
  · obtain ⟨sl, p2⟩ := k1.2.2 b o p
    exact ⟨sl, stay b _ (notx b o p r) p2⟩
theorem note_any {Q : Unit → Shared → Prop} (hfr : A.frames = some (env :: outer)) (hf : env.frame = some L) (a : Aloft B (env :: outer) x cls dct s.heap)
    (q : ∀ g, Aloft B (env :: outer) x cls dct g → s.heap.UpToSlots g → Q () { s with heap := g }) : wpAny M A (noteFrame (.ref x) env) Q E s := by
  obtain ⟨a0, fl, ht⟩ := a.tr
  by_cases hfl : fl = rawInt L
  · subst hfl
    exact wpAny_noteFrame_againW hf ht (q s.heap a (Heap.UpToSlots.refl _))
  · obtain ⟨ox, vx, T, ot, vt, e1, ⟨ec, e0⟩, e2, e3, n1, n2, e4, e5, e6⟩ := ht
    subst ec
    obtain ⟨ox', e1', ed⟩ := a.dc
    rw [e1] at e1'
    cases e1'
    subst ed
    unfold noteFrame
    simp only [hf]
    refine wpAny_bind (wpAny_field e1 e2 e3 ?_)
    rw [if_pos (by simp : (Value.ref T != Value.none) = true)]
    refine wpAny_bind (wpAny_field e4 e5 e6 ?_)
    rw [if_neg (by intro z; exact hfl (eq_of_beq z))]
    refine wpAny_bind (wpAny_setField e4 e5 (Array.getElem?_eq_some_iff.mp e6).1 ?_)
    have away : ∀ b, b ≠ T → (s.heap.update T (Obj.mapFields (·.setIfInBounds 3 Value.none))).get? b = s.heap.get? b := fun b hb => Heap.get?_update_other _ _ hb.symm
    have apart : ∀ b o, s.heap.get? b = some o → (∀ vs, o.data ≠ .fields vs) → b ≠ T := fun b o hb hn z => by
      rw [z, e4] at hb
      cases hb
      exact hn vt e5
    refine entry_any (s := { s with heap := s.heap.update T (Obj.mapFields (·.setIfInBounds 3 Value.none)) }) hfr (a.fr.of_keeps fun b o hb hn => ⟨o, (away b (apart b o hb hn)).trans hb, rfl⟩) hf ((away x n2.symm).trans e1) (fun b o hb => (away b fun z => by rw [z, n1] at hb; cases hb).trans (a.st b o hb)) a.no e2 (Array.getElem?_eq_some_iff.mp e3).1 e0 fun g hg u => ?_
    exact q g hg fun b o hb hn => u b o ((away b (apart b o hb hn)).trans hb) hn
theorem set_any {fr : Option Addr} {Q : Unit → Shared → Prop} (a : Aloft B l x cls dct s.heap) (q : ∀ g, Aloft B l x cls dct g → s.heap.UpToSlots g → Q () { s with heap := g }) : wpAny M A (setFlight (.ref x) fr) Q E s := by
  obtain ⟨a0, fl, ht⟩ := a.tr
  obtain ⟨ox, vx, T, ot, vt, e1, ec, e2, e3, n1, n2, e4, e5, e6⟩ := ht
  have s3 : 3 < vt.size := (Array.getElem?_eq_some_iff.mp e6).1
  have away : ∀ b, b ≠ T → (s.heap.update T (Obj.mapFields (·.setIfInBounds 3 (fr.elim Value.none fun f => rawInt f)))).get? b = s.heap.get? b := fun b hb => Heap.get?_update_other _ _ hb.symm
  have apart : ∀ b o, s.heap.get? b = some o → (∀ vs, o.data ≠ .fields vs) → b ≠ T := fun b o hb hn z => by
    rw [z, e4] at hb
    cases hb
    exact hn vt e5
  unfold setFlight
  refine wpAny_bind (wpAny_field e1 e2 e3 ?_)
  rw [if_pos (by simp : (Value.ref T != Value.none) = true)]
  refine wpAny_setField e4 e5 s3 (q _ ⟨fun b o hb => (away b fun z => by rw [z, n1] at hb; cases hb).trans (a.st b o hb), a.no, a.fr.of_keeps fun b o hb hn => ⟨o, (away b (apart b o hb hn)).trans hb, rfl⟩, ⟨a0, fr.elim Value.none fun f => rawInt f, ?_⟩, ?_⟩ fun b o hb hn => ⟨o.slots, (away b (apart b o hb hn)).trans hb⟩)
  · exact ⟨ox, vx, T, _, _, (away x n2.symm).trans e1, ec, e2, e3, n1, n2, Heap.get?_update_self _ e4 (Obj.isFreed_of_fields (Obj.data_mapFields e5 _)), Obj.data_mapFields e5 _, by simp [s3]⟩
  · obtain ⟨o, p, r⟩ := a.dc
    exact ⟨o, (away x n2.symm).trans p, r⟩
theorem leave_any {Q : Unit → Shared → Prop} (hfr : A.frames = some (env :: outer)) (hf : env.frame = some L) (a : Aloft B (env :: outer) x cls dct s.heap) (q : ∀ g, Aloft B outer x cls dct g → s.heap.UpToSlots g → Q () { s with heap := g }) :
    wpAny M A (leaving env (.ref x)) Q E s := by
  unfold leaving
  refine wpAny_bind (note_any hfr hf a fun g hg u => ?_)
  refine set_any (s := { s with heap := g }) hg fun g2 a2 u2 => ?_
  exact q g2 ⟨a2.st, a2.no, a2.fr.2.2, a2.tr, a2.dc⟩ (u.trans u2)
/-- it leaves the frame in which it was made -/
theorem first_any {ox : Obj} {us : Array Value} {z0 : Value} {Q : Unit → Shared → Prop} (hfr : A.frames = some (env :: outer)) (fr : s.heap.FunFrames B (env :: outer)) (hf : env.frame = some L) (e1 : s.heap.get? x = some ox) (st : B.StaysIn s.heap) (no : B.get? x = none)
    (ed : ox.data = .fields us) (en : us[1]? = some .none) (e0 : us[0]? = some z0) (q : ∀ g, Aloft B outer x ox.cls ox.dict g → s.heap.UpToSlots g → Q () { s with heap := g }) : wpAny M A (leaving env (.ref x)) Q E s := by
  unfold leaving noteFrame
  simp only [hf]
  refine wpAny_bind (wpAny_bind (wpAny_field e1 ed en ?_))
  rw [if_neg (by decide)]
  refine entry_any hfr fr hf e1 st no ed (Array.getElem?_eq_some_iff.mp en).1 e0 fun g hg u => ?_
  refine set_any (s := { s with heap := g }) hg fun g2 a2 u2 => ?_
  exact q g2 ⟨a2.st, a2.no, a2.fr.2.2, a2.tr, a2.dc⟩ (u.trans u2)
end

/-! ### what stands while it flies -/
structure Air (P : Program) (w : World) (fs ex : List Addr) (H0 : Hp) (h0 B : Heap) (H' : Hp) (h : Heap) : Prop where
  hok : HOk P w H' B
  keep : ∀ b o, h0.get? b = some o → H0 b = none → b ∉ fs → b ∉ ex → B.get? b = some o
  there : ∀ b o, h0.get? b = some o → b ∉ fs → b ∉ ex → ∃ o', B.get? b = some o'
  free : ∀ b o, h0.get? b = some o → H0 b = none → b ∉ ex → H' b = none
  tups : ∀ b xs, H0 b = some (.tup xs) → H' b = some (.tup xs)
  frzs : ∀ b o u, H0 b = some (.frz o u) → H' b = some (.frz o u)
  tbls : ∀ b ps, H0 b = some (.tbl ps) → ∃ more, H' b = some (.tbl (ps ++ more))
  slot : ∀ b o, h0.get? b = some o → H0 b = none → b ∈ fs → b ∉ ex → ∃ sl, h.get? b = some { o with slots := sl }
section
variable {P : Program} {w : World} {fs ex : List Addr} {H0 H' : Hp} {h0 B h h2 : Heap}
theorem Air.un (a : Air P w fs ex H0 h0 B H' h) (st : B.StaysIn h) (frf : ∀ b ∈ fs, H0 b = none) : Un fs ex H0 H' h0 h where
  keep := fun b o e n hb hx => st b o (a.keep b o e n hb hx)
  slot := fun b o e n hb hx => a.slot b o e n hb hx
  free := fun b o e n hx => a.free b o e n hx
  there := fun b o e hx => by
    by_cases hb : b ∈ fs
    · obtain ⟨sl, q⟩ := a.slot b o e (frf b hb) hb hx
      exact ⟨_, q⟩
    · obtain ⟨o', q⟩ := a.there b o e hb hx
      exact ⟨o', st b o' q⟩
  tups := a.tups
  frzs := a.frzs
  tbls := a.tbls
theorem Air.up {l : List Env} {B' : Heap} (a : Air P w (frs l) ex H0 h0 B H' h) (fr : h.FunFrames B' l) (u : h.UpToSlots h2) : Air P w (frs l) ex H0 h0 B H' h2 :=
  ⟨a.hok, a.keep, a.there, a.free, a.tups, a.frzs, a.tbls, fun b o e n hb hx => by
    obtain ⟨sl, q⟩ := a.slot b o e n hb hx
    obtain ⟨_, o2, q2, hn⟩ := fr.mem hb
    rw [q] at q2
    cases q2
    obtain ⟨sl2, q3⟩ := u b _ q hn
    exact ⟨sl2, q3⟩⟩
/-- one stretch behind another -/
theorem Air.after {fs' ex' : List Addr} {H1 : Hp} {h1 : Heap} (u : Un fs' ex' H0 H1 h0 h1) (a : Air P w fs ex H1 h1 B H' h) (hf : ∀ b o, h0.get? b = some o → b ∉ fs' → b ∉ fs) (hi : ∀ b o, h0.get? b = some o → b ∈ fs' → b ∈ fs) (hx : ∀ b o, h0.get? b = some o → b ∉ ex' → b ∉ ex) : Air P w fs' ex' H0 h0 B H' h := by
  refine ⟨a.hok, fun b o e n hb hxx => ?_, fun b o e hb hxx => ?_, fun b o e n hxx => ?_, fun b xs e => a.tups b xs (u.tups b xs e), fun b o u' e => a.frzs b o u' (u.frzs b o u' e), fun b ps e => ?_, fun b o e n hb hxx => ?_⟩
  · exact a.keep b o (u.keep b o e n hb hxx) (u.free b o e n hxx) (hf b o e hb) (hx b o e hxx)
  · obtain ⟨o', e'⟩ := u.there b o e hxx
    exact a.there b o' e' (hf b o e hb) (hx b o e hxx)
  · obtain ⟨o', e'⟩ := u.there b o e hxx
    exact a.free b o' e' (u.free b o e n hxx) (hx b o e hxx)
  · obtain ⟨m1, e1⟩ := u.tbls b ps e
    obtain ⟨m2, e2⟩ := a.tbls b _ e1
    exact ⟨m1 ++ m2, by rw [e2, Array.append_assoc]⟩
  · obtain ⟨sl, e1⟩ := u.slot b o e n hb hxx
    obtain ⟨sl2, e2⟩ := a.slot b _ e1 (u.free b o e n hxx) (hi b o e hb) (hx b o e hxx)
    exact ⟨sl2, e2⟩
end
def CXE (P : Program) (w : World) (ex : List Addr) : CXT := fun outer H s E e s' => ∃ (x : Addr) (cls : Value) (dct : Option Addr) (B : Heap) (H' : Hp), e = .ref x ∧ s'.os = s.os ∧ AllBare s'.gens ∧ Aloft B outer x cls dct s'.heap ∧ Air P w (frs outer) ex H s.heap B H' s'.heap ∧ E cls dct H'
abbrev CXN (P : Program) (w : World) : CXT := CXE P w []
section
variable {X : Cx} {pins : List (Addr × Obj)} {σ : St} {H H' : Hp} {s s' : Shared} {B : Heap}
/-- from a body: what the raise of x leaves standing -/
theorem Inv.air1 {x : Addr} (I : Inv X pins σ H s) (nx : H x = none) : ∃ B : Heap, B.StaysIn s.heap ∧ s.heap.FunFrames B X.stack ∧ B.get? x = none ∧ Air X.prog X.w (frs X.stack) [x] H s.heap B H s.heap := by
  have hb : ∀ b o, s.heap.get? b = some o → b ∉ frs X.stack → b ≠ x → (PySem.W.hideAll s.heap (x :: frs X.stack)).get? b = some o := fun b o e n nb => PySem.W.hideAll_get _ e (by simp [nb, n])
  refine ⟨PySem.W.hideAll s.heap (x :: frs X.stack), fun b o e => PySem.W.of_hideAll _ e, PySem.W.funFrames_hide I.stack fun env he b hf => List.mem_cons_of_mem _ (List.mem_filterMap.mpr ⟨env, he, hf⟩), PySem.W.hideAll_none _ (List.mem_cons_self ..), ?_⟩
  refine ⟨fun a o e => (I.hok a o e).stay (fun b u hbu q => hb b u q (fun hm => ?_) fun z => ?_) (fun _ q => q) fun _ _ q => q, fun b o e _ n nx' => hb b o e n (by simpa using nx'), fun b o e n nx' => ⟨o, hb b o e n (by simpa using nx')⟩, fun _ _ _ n _ => n, fun _ _ e => e, fun _ _ _ e => e, fun b ps e => ⟨#[], by simpa using e⟩, fun b o e _ _ _ => ⟨o.slots, e⟩⟩
  · have z := I.stkFree b hm
    rcases hbu with rfl | hbu
    · rw [e] at z; cases z
    · rw [hbu] at z; cases z
  · subst z
    rcases hbu with rfl | hbu
    · rw [e] at nx; cases nx
    · rw [hbu] at nx; cases nx
/-- seen from the entry of the def -/
theorem Air.out {h : Heap} {ex : List Addr} (I : Inv X pins σ H s) (a : Air X.prog X.w (frs X.stack) ex H s.heap B H' h) (hex : X.ex = []) (hst : X.stack = X.env :: X.outer) (hfr : X.env.frame = some X.env.locals) (hx : ∀ b ∈ ex, X.s₀.heap.get? b = none) :
    Air X.prog X.w (frs X.outer) [] X.H₀ X.s₀.heap B H' h := by
  have mem : ∀ b, b ∈ frs X.stack ↔ b = X.env.locals ∨ b ∈ frs X.outer := fun b => by
    unfold frs
    rw [hst, List.filterMap_cons, hfr]
    simp
  have old : ∀ b o, X.s₀.heap.get? b = some o → b ≠ X.env.locals := fun b o e z => by
    have h1 := Heap.lt_size e
    have h2 := I.ok.above
    rw [z] at h1
    exact Nat.lt_irrefl _ (Nat.lt_of_lt_of_le h1 h2)
  have un : Un (frs X.outer) X.ex X.H₀ H X.s₀.heap s.heap := I.base
  rw [hex] at un
  exact Air.after un a (fun b o e n z => ((mem b).mp z).elim (old b o e) n) (fun b o e hb => (mem b).mpr (.inr hb)) fun b o e _ z => by have q := hx b z; rw [e] at q; cases q
end
/-- a def's context whose exceptions go up -/
structure XDef (X : Cx) (E : XK) : Prop where
  ex : X.ex = []
  stk : X.stack = X.env :: X.outer
  fr : X.env.frame = some X.env.locals
  any : ∀ (pins : List (Addr × Obj)) (σ : St) (H : Hp) (s : Shared) (e : Value) (s' : Shared) (ex : List Addr), Inv X pins σ H s → (∀ b ∈ ex, X.s₀.heap.objs.size ≤ b) → CXE X.prog X.w ex X.stack H s E e s' → X.xe e s'
  made : ∀ (pins : List (Addr × Obj)) (σ : St) (H : Hp) (s : Shared) (x : Addr) (ox : Obj) (us : Array Value) (z0 : Value), Inv X pins σ H s → H x = none → X.s₀.heap.get? x = none → s.heap.get? x = some ox → ox.data = .fields us → us[1]? = some .none → us[0]? = some z0 → E ox.cls ox.dict H → X.xe (.ref x) s
theorem XDef.pass {X : Cx} {E : XK} (D : XDef X E) : Passes (CXN X.prog X.w) X E := fun pins σ H s e s' I h => D.any pins σ H s e s' [] I (fun b hb => absurd hb (by simp)) h
theorem xdef_of {P : Program} {w : World} {K : PySem.W.Frag} {mg : Str → Option Value} {base : Heap} {N : List Str} {qual : Str} {scope : Scope} {f : Addr} {cd : Value} {A : Around} {outer : List Env} {s0 : Shared} {H0 : Hp} {E : XK} :
    XDef (cxOf (CXN P w) P w K mg base N qual scope f cd A outer s0 H0 E) E := by
  refine ⟨rfl, rfl, rfl, ?_, ?_⟩
  · intro pins σ H s e s' ex I hx hc
    obtain ⟨x, cls, dct, B, H', rfl, os, bare, al, air, hE⟩ := hc
    have out := Air.out I air rfl rfl rfl fun b hb => Heap.get?_none_of_le (hx b hb)
    refine leave_any (env := envOfC qual scope s0.heap.objs.size f cd) (outer := outer) I.ok.frames rfl al fun g ag u => ?_
    refine ⟨x, cls, dct, B, H', rfl, os.trans I.os, bare, ag, Air.up out al.fr.2.2 u, hE⟩
  · intro pins σ H s x ox us z0 I nx far e1 ed en e0 hE
    obtain ⟨B, b1, b2, b3, air⟩ := I.air1 nx
    have out := Air.out I air rfl rfl rfl fun b hb => by rw [List.mem_singleton.mp hb]; exact far
    refine first_any (env := envOfC qual scope s0.heap.objs.size f cd) (outer := outer) I.ok.frames b2 rfl e1 b1 b3 ed en e0 fun g al u => ?_
    exact ⟨x, ox.cls, ox.dict, B, H, rfl, I.os, I.bare, al, Air.up out b2.2.2 u, hE⟩
/-- THE RULE for a def that may raise -/
theorem Fun.okX {P : Program} {w : World} {K : PySem.W.Frag} {mg : Str → Option Value} {base : Heap} {x qual : Str} {st : Stmt} {f : Addr} {fd : FuncData} {N ps : List Str} {k : Nat} {sp : Sp} (F : Fun K x qual st f fd) (S : FnScope N ps (defScope st)) (len : ∀ vs H Q E, sp vs H Q E → vs.length = ps.length)
    (hbody : ∀ (cdv : Value) (A : Around) (outer : List Env) (s : Shared) (H : Hp) (vs : List V) (Q : VK) (E : XK), Room k (A.deeper (envOfC qual (defScope st) s.heap.objs.size f cdv)) → XDef (cxOf (CXN P w) P w K mg base N qual (defScope st) f cdv A outer s H E) E → sp vs H Q E →
      ∃ t, PSs (cxOf (CXN P w) P w K mg base N qual (defScope st) f cdv A outer s H E) (defBody st) t ∧ t { nx := fun _ H' => Q .non H', rt := Q } (start N vs) H) : FnOk P w K mg base (CXN P w) (k + 1) f fd ps sp := by
  obtain ⟨oc, od, kV, doc, pm, an, cdv, ct, osl, rfl, lk, hcd⟩ := F.ex
  exact fn_of lk hcd S len fun A outer s H vs Q E hr hsp => hbody cdv A outer s H vs Q E hr xdef_of hsp

/-! ### raise C(e) -/
/-- an own exception class without an __init__ of its own, under ValueError -/
structure Exc (K : PySem.W.Frag) (mg : Str → Option Value) (x : Str) (C : Addr) : Prop where
  mg : mg x = some (.ref C)
  ok : PySem.W.excIn K C [.type "ValueError", .type "Exception", .type "BaseException", .type "object"] "ValueError.__new__" = true
theorem own_at {K : PySem.W.Frag} {h : Heap} {mg : Str → Option Value} {x : Str} {C : Addr} {bmB : List Value} {newId : String} (X : K.In h) (hm : mg x = some (.ref C)) (q : PySem.W.excIn K C bmB newId = true) : OwnCls x C bmB newId mg h := by
  refine ⟨hm, ?_⟩
  unfold PySem.W.excIn at q
  split at q
  · rename_i dd cd sl ho
    split at q
    · rename_i C' bm k0 k1 k2 k3 n k5 h1 h2
      simp only [Bool.and_eq_true, beq_iff_eq, Bool.not_eq_true'] at q
      obtain ⟨⟨⟨⟨⟨rfl, rfl⟩, h3⟩, h4⟩, h5⟩, h6⟩ := q
      obtain ⟨nm, bs, mro, ns, qn, hd, sn, sub, ab, col, del⟩ := cd
      dsimp only at h1 h3 h5 h6
      subst h1 h3
      have e : sl = #[k0, k1, k2, k3, some (.builtin n), k5] := by
        obtain ⟨l⟩ := sl
        simp only at h2
        rw [h2]
      subst e
      exact ⟨bm, ns, nm, qn, bs, hd, sn, sub, ab, col, dd, k0, k1, k2, k3, k5, _, X _ _ ho, .of_isNs (PySem.W.isNs_of_in X h5), PySem.W.nsMap_none_of_in X h5 h6, PySem.W.tail_of_in X h4⟩
    · cases q
  · cases q
section
variable {X : Cx}
theorem ps_raise {E : XK} {x : Str} {C : Addr} {e : Expr} {te : TE} {np cpos pos : Pos} (XD : XDef X E) (hc : X.calm = true) (T : Exc X.K X.mg x C) (he : PE X e te) (hg : Gl X x := by rfl) (hd : (x == ("__debug__" : Str)) = false := by decide)
    (hs : starEach [e] X.env = [(false, eval e X.env)] := by rfl) : PS X (.Raise (some (.Call (.Name x np) [e] [] cpos)) none pos) (fun _ σ H => te σ H fun _ H1 => E (.ref C) none H1) := by
  intro pins s σ H D I h
  obtain ⟨tl, N, nm, q, bs, hdct, sn, sub, ab, col, dd, k0, k1, k2, k3, k5, mN, hC, hN, hni, TL⟩ := (own_at I.ok.mod.kin T.mg T.ok).obj
  have FB := PySem.F.excBase_ValueError
  refine wpAny_Raise_call_subT (C := C) (nm := nm) (q := q) (N := N) (bs := bs) (bm := tl) (hdct := hdct) (sn := sn) (sub := sub) (ab := ab) (col := col) (dd := dd) (k0 := k0) (k1 := k1) (k2 := k2) (k3 := k3) (k5 := k5)
    FB (mN := mN) (TL.hasType FB.hasBase) (I.ok.hd hc) (by rw [hs]; rfl) hni (ld_glob I hg T.mg ⟨rfl, ?_⟩ hd)
  rw [hs]
  refine Calls.evalArgs_plain ?_
  refine Calls.spliced_cons (thn (he pins s σ H _ I h) fun v s1 hz0 => ?_)
  obtain ⟨y, H1, I1, r1, q1⟩ := hz0
  refine Calls.spliced_nil ⟨rfl, by show 1 ≤ sizeLine; decide, I1.bk _ _ hC, hN.keeps I1.bk, TL.keeps I1.bk, fun h' x' hm => ?_⟩
  obtain ⟨tt, ht, hn2, _⟩ := hm.there
  have I2 : Inv X pins σ H1 { s1 with heap := h' } := I1.kept (t' := s1.toks) hm.keeps
  have hx1 : H1 x' = none := by
    cases z : H1 x' with
    | none => rfl
    | some o =>
      obtain ⟨u, e⟩ := ObjOk.seat (I1.hok x' o z)
      rw [hm.new] at e
      cases e
  have hx2 : X.s₀.heap.get? x' = none := by
    cases z : X.s₀.heap.get? x' with
    | none => rfl
    | some o =>
      obtain ⟨u, e⟩ := I1.base.there x' o z (by rw [XD.ex]; simp)
      rw [hm.new] at e
      cases e
  exact XD.made pins σ H1 _ x' _ _ _ I2 hx1 hx2 ht rfl rfl rfl q1
end
end L2

/-! a comprehension from which exceptions may leave; try with one except. -/
namespace L2
open PySem PySem.Spec PyProof.Rows
end L2

/-! try with one except of an own class. -/
namespace L2
open PySem PySem.Spec PyProof.Rows
/-- the context of a try's body; of a handler's suite -/
abbrev cxBody (X : Cx) (pn : List (Addr × Obj)) (W : Value → Shared → Prop) : Cx := { X with pn := pn, xe := W }
abbrev cxHand (X : Cx) (pn : List (Addr × Obj)) (x : Addr) : Cx := { X with A := X.A.mark (some (.ref x)), calm := false, pn := pn, xe := fun _ _ => False }
/-- exceptions of callees, at the state σ alone -/
def PassAt (CX : CXT) (X : Cx) (σ : St) (E : XK) : Prop := ∀ (pins : List (Addr × Obj)) (H : Hp) (s : Shared) (e : Value) (s' : Shared), Inv X pins σ H s → CX X.stack H s E e s' → X.xe e s'
section
variable {X : Cx} {pins pn : List (Addr × Obj)} {σ σ0 : St} {H H' : Hp} {s s' : Shared} {B : Heap} {E : XK}
theorem pe_callS {CX : CXT} {k : Nat} {f : Addr} {fd : FuncData} {ps : List Str} {sp : Sp} {dvs : List V} {ds : List Value} {x : Str} {p pos : Pos} {e : Expr} {es : List Expr} {t : TA} (F : FnOk X.prog X.w X.K X.mg X.base CX k f fd ps sp) (hr : Room k X.A) (hg : Gl X x) (hm : X.mg x = some (.ref f)) (hk : PySem.W.keepIn X.K (.ref f) = true) (hb : Binds X.K fd ps ds) (hd : Vals dvs ds) (hx : PassAt CX X σ0 E)
    (ha : PA X (e :: es) t) (hdb : (x == ("__debug__" : Str)) = false := by decide) (he : starEach (e :: es) X.env = (false, eval e X.env) :: starEach es X.env := by rfl) (hpl : (backTo pos (starEach es X.env)).any (·.1) = false := by rfl) :
    PE X (.Call (.Name x p) (e :: es) [] pos) (fun σ H Q => σ = σ0 ∧ tCall sp dvs E t σ H Q) := by
  intro pins s σ H Q I ⟨hσ, h⟩
  subst hσ
  refine wpAny_Call_Name_kw (ld_glob I hg hm ?_ hdb)
  refine PySem.W.callWith_K (h₀ := X.base) I.ok.mod.kin hk (thn (ha pos pins s σ H _ I h) fun us s1 ⟨vs, H1, I1, r, q⟩ => ⟨I1.kIn, ?_⟩) he hpl
  have r2 := r.append hd
  have hl : (us ++ ds).length = ps.length := by rw [← r2.length]; exact F.len _ _ _ _ q
  refine wpAny_call (codeAny_mono (F.run X.A X.stack s1 H1 ⟨us, []⟩ (us ++ ds) (vs ++ dvs) Q E hr I1.env0 (hb s1 us I1.kIn hl) r2 q) fun r s' hq => ?_)
  cases r with
  | error e => exact hx pins H1 s1 e s' I1 hq
  | ok fl =>
    cases fl with
    | ret u => exact I1.after hq
    | next => exact False.elim hq
    | brk => exact False.elim hq
    | cont => exact False.elim hq
theorem Inv.toBody {W : Value → Shared → Prop} (I : Inv X pins σ H s) : Inv (cxBody X (X.pn ++ pins) W) [] σ H s :=
  ⟨⟨I.ok.mod, I.ok.kind, I.ok.glob, I.ok.blt, I.ok.above, I.ok.inj, I.ok.has, I.ok.cab, I.ok.hd, I.ok.frames, I.ok.stk, I.ok.exf, I.ok.bs, I.ok.bsz, I.ok.noex, I.ok.exfs, I.ok.funs, I.ok.frf⟩, I.os, I.bare, I.base, I.loc, I.cell, I.free, I.freeC, by rw [List.append_nil]; exact I.pin, I.hok, I.len⟩
theorem Inv.ofBody {W : Value → Shared → Prop} {more : List (Addr × Obj)} (I : Inv (cxBody X (X.pn ++ pins) W) more σ H s) : Inv X pins σ H s :=
  ⟨⟨I.ok.mod, I.ok.kind, I.ok.glob, I.ok.blt, I.ok.above, I.ok.inj, I.ok.has, I.ok.cab, I.ok.hd, I.ok.frames, I.ok.stk, I.ok.exf, I.ok.bs, I.ok.bsz, I.ok.noex, I.ok.exfs, I.ok.funs, I.ok.frf⟩, I.os, I.bare, I.base, I.loc, I.cell, I.free, I.freeC, fun p hp => I.pin p (List.mem_append_left _ hp), I.hok, I.len⟩
theorem Inv.toHand {x : Addr} (I : Inv X pins σ H s) : Inv (cxHand X (X.pn ++ pins) x) [] σ H s :=
  ⟨⟨I.ok.mod, I.ok.kind, I.ok.glob, I.ok.blt, I.ok.above, I.ok.inj, I.ok.has, I.ok.cab, (fun z => nomatch z), I.ok.frames, I.ok.stk, I.ok.exf, I.ok.bs, I.ok.bsz, I.ok.noex, I.ok.exfs, I.ok.funs, I.ok.frf⟩, I.os, I.bare, I.base, I.loc, I.cell, I.free, I.freeC, by rw [List.append_nil]; exact I.pin, I.hok, I.len⟩
theorem Inv.ofHand {x : Addr} {more : List (Addr × Obj)} (ok : X.Ok) (I : Inv (cxHand X (X.pn ++ pins) x) more σ H s) : Inv X pins σ H s :=
  ⟨ok, I.os, I.bare, I.base, I.loc, I.cell, I.free, I.freeC, fun p hp => I.pin p (List.mem_append_left _ hp), I.hok, I.len⟩
theorem SP.mono {Y : Cx} {pins' : List (Addr × Obj)} {D : Ends} {f : Flow} (k : ∀ σ H, Inv Y pins' σ H s → Inv X pins σ H s) (h : SP Y pins' D f s) : SP X pins D f s := by
  cases f with
  | next => obtain ⟨σ, H, I, q⟩ := h; exact ⟨σ, H, k _ _ I, q⟩
  | brk => obtain ⟨σ, H, I, q⟩ := h; exact ⟨σ, H, k _ _ I, q⟩
  | cont => obtain ⟨σ, H, I, q⟩ := h; exact ⟨σ, H, k _ _ I, q⟩
  | ret u => obtain ⟨v, σ, H, I, q⟩ := h; exact ⟨v, σ, H, k _ _ I, q⟩
/-- an exception has come as far as this frame: all is as behind a call -/
theorem Inv.landed {x : Addr} {cls : Value} {dct : Option Addr} (I : Inv X pins σ H s) (os : s'.os = s.os) (bare : AllBare s'.gens) (al : Aloft B X.stack x cls dct s'.heap) (air : Air X.prog X.w (frs X.stack) [] H s.heap B H' s'.heap) : Inv X pins σ H' s' :=
  I.call' (ch := []) os (air.un al.st fun b hb => I.stkFree b hb) (fun a o e => (air.hok a o e).stay (fun b v _ q => al.st b v q) (fun _ q => q) fun _ _ q => q) bare fun b hb => absurd hb (by simp)
end
end L2

/-! a caught exception as a value; a name that goes behind its suite. -/
namespace L2
open PySem PySem.Spec PyProof.Rows
section
variable {X : Cx} {pins : List (Addr × Obj)} {σ : St} {H : Hp} {s : Shared}
/-- x goes: nothing is known of it any more -/
theorem gone_ok {M : Model} {A : Around} {E : Value → Shared → Prop} {i : Nat} {x : Str} {pos : Pos} {Q : Unit → Shared → Prop} (I : Inv X pins σ H s) (nd : X.N.Nodup) (at_ : X.N[i]? = some x) (lc : X.env.scope.names.lookup x = some .local)
    (next : ∀ s', Inv X pins (σ.set i none) H s' → Q () s') : wpAny M A (do bindName X.env x .none; unbindBehindTheSuite X.env x pos) Q E s := by
  obtain ⟨m, nsm, look⟩ := id I.loc
  have fk : (X.env.scope.kind == .class || (X.env.scope.kind == .module && X.env.locals != X.env.globals)) = false := by rw [I.ok.kind]; rfl
  have il : i < σ.length := by rw [I.len]; exact (List.getElem?_eq_some_iff.mp at_).1
  refine wpAny_nameGoes_keeps lc nsm fk fun g w nsg sb => next _ ?_
  obtain ⟨oL, _, _, eL, _⟩ := id nsm
  have low : ∀ b o, X.s₀.heap.get? b = some o → b ≠ X.env.locals := fun b o e => Nat.ne_of_lt (Nat.lt_of_lt_of_le (Heap.lt_size e) I.ok.above)
  have far : ∀ b o, b ≠ X.env.locals → s.heap.get? b = some o → g.get? b = some o := fun b o n e => (sb.2 b n).trans e
  have un : Un X.fs X.ex X.H₀ H X.s₀.heap g :=
    { keep := fun b o e n f x' => far b o (low b o e) (I.base.keep b o e n f x')
      slot := fun b o e n f x' => (I.base.slot b o e n f x').imp fun sl q => far b _ (low b o e) q
      free := I.base.free
      there := fun b o e x' => (I.base.there b o e x').imp fun o' q => far b o' (low b o e) q
      tups := I.base.tups
      frzs := I.base.frzs
      tbls := I.base.tbls }
  have hk : HOk X.prog X.w H g := fun a o e => (I.hok a o e).stay (fun c o' hc q => far c o' (by
    rintro rfl
    rcases hc with rfl | hc
    · rw [I.free] at e; cases e
    · rw [I.free] at hc; cases hc) q) (fun _ q => q) fun _ _ q => q
  refine ⟨I.ok, I.os, I.bare, un, ⟨_, nsg, fun j y u e1 e2 e3 => ?_⟩, fun y c e => ?_, I.free, I.freeC, fun p hp => ?_, hk, by simpa using I.len⟩
  · by_cases hj : j = i
    · subst hj
      rw [List.getElem?_set_self il] at e2
      cases e2
    · rw [List.getElem?_set_ne (Ne.symm hj)] at e2
      obtain ⟨u', r', l'⟩ := look j y u e1 e2 e3
      refine ⟨u', r', ?_⟩
      rcases l' with ⟨k1, k2⟩ | ⟨k1, c, k2, k3⟩
      · refine .inl ⟨k1, ?_⟩
        have ne : y ≠ x := fun z => hj (nodup_ix nd e1 (z ▸ at_))
        simp [ne, k2]
      · exact .inr ⟨k1, c, k2, k3.sameBut sb (I.cne y c k2)⟩
  · obtain ⟨w', z⟩ := I.cell y c e
    exact ⟨w', z.sameBut sb (I.cne y c e)⟩
  · obtain ⟨e, n, nl, nf, d⟩ := I.pin p hp
    exact ⟨far p.1 p.2 nl e, n, nl, nf, d⟩
/-- an exception of the class C at a, its own dict -/
def isExc (a C : Addr) (d : Option Addr) : HO := .ext fun h => ∃ o us, h.get? a = some o ∧ o.cls = .ref C ∧ o.dict = d ∧ o.data = .fields us
end
end L2

/-! try .. except D as n: the exception is an own one under D. -/
namespace L2
open PySem PySem.Spec PyProof.Rows
section
variable {X : Cx} {pins : List (Addr × Obj)} {σ : St} {H H' : Hp} {s s' : Shared} {B : Heap}
/-- the exception itself, seen from where it lands: it is new, and it is tracked from now on -/
theorem Inv.landedAs {x C : Addr} {dct : Option Addr} (I : Inv X pins σ H s) (os : s'.os = s.os) (bare : AllBare s'.gens) (al : Aloft B X.stack x (.ref C) dct s'.heap) (air : Air X.prog X.w (frs X.stack) [] H s.heap B H' s'.heap) : H' x = none ∧ Inv X pins σ (upd H' x (isExc x C dct)) s' := by
  have free : H' x = none := by
    cases q : H' x with
    | none => rfl
    | some o =>
      obtain ⟨u, e⟩ := ObjOk.seat (air.hok x o q)
      rw [al.no] at e
      cases e
  obtain ⟨a0, fl, ox, vx, T, ot, vt, e1, ⟨ec, _⟩, e2, _⟩ := id al.tr
  have edc : ox.dict = dct := by
    obtain ⟨o, p, r⟩ := al.dc
    rw [e1] at p
    cases p
    exact r
  have new : s.heap.get? x = none := by
    cases q : s.heap.get? x with
    | none => rfl
    | some o =>
      by_cases hf : x ∈ frs X.stack
      · obtain ⟨_, o2, q2, hn⟩ := al.fr.mem hf
        rw [e1] at q2
        cases q2
        exact absurd e2 (hn vx)
      · obtain ⟨o', e'⟩ := air.there x o q hf (by simp)
        rw [al.no] at e'
        cases e'
  have un := air.un al.st fun b hb => I.stkFree b hb
  have hok : HOk X.prog X.w H' s'.heap := fun a o e => (air.hok a o e).stay (fun b v _ q => al.st b v q) (fun _ q => q) fun _ _ q => q
  refine ⟨free, I.call' (ch := []) os { keep := un.keep, slot := un.slot, free := fun b o e n hx => ?_, there := un.there, tups := fun b xs e => ?_, frzs := fun b o u e => ?_, tbls := fun b ps e => ?_ } (hok.take free ⟨⟨ox, vx, e1, ec, edc, e2⟩, ⟨ox, e1⟩, fun h1 h2 ⟨o, us, p1, p2⟩ k => ⟨o, us, k o p1, p2⟩⟩) bare fun b hb => absurd hb (by simp)⟩
  · rw [upd_ne (fun z => by rw [z, new] at e; cases e)]
    exact un.free b o e n hx
  · have q := un.tups b xs e
    rw [upd_ne (ne_of_none q free)]; exact q
  · have q := un.frzs b o u e
    rw [upd_ne (ne_of_none q free)]; exact q
  · obtain ⟨more, q⟩ := un.tbls b ps e
    exact ⟨more, by rw [upd_ne (ne_of_none q free)]; exact q⟩
/-- an own exception class under D -/
structure Under (K : PySem.W.Frag) (C D : Addr) : Prop where
  up : PySem.W.mroIn K C (.ref D) = some true
theorem match_up {M : Model} {A : Around} {E : Value → Shared → Prop} {K : PySem.W.Frag} {nm' q' : Str} {C D N' : Addr} {bs' bm' : List Value} {hdct' : Bool} {sn' : List Str} {sub' : List Value} {ab' : Bool} {col' : Option Bool} {dd' : Option Addr} {j0 j1 j2 j3 j5 : Option Value} {newId' : String}
    {h : Heap} {g : Array GenState} {d : Drawn} {t : Nat} {os : OsState} {e : Addr} {oe : Obj} {Q : Bool → Shared → Prop} (kin : K.In h) (up : PySem.W.mroIn K C (.ref D) = some true)
    (hD : h.get? D = some (excClassObj nm' q' D N' bs' bm' hdct' sn' sub' ab' col' dd' j0 j1 j2 j3 j5 newId')) (he : h.get? e = some oe) (hcls : oe.cls = .ref C) (hbase : bm'.contains (.type "BaseException") = true)
    (hq : Q true ⟨h, g, d, t, os⟩) : wpAny M A (excMatches (.ref e) (.ref D)) Q E ⟨h, g, d, t, os⟩ := by
  have b1 : (Value.ref D :: bm').contains (.type "BaseException") = true := by rw [List.contains_cons, hbase, Bool.or_true]
  have f := tc_notTuple
  unfold excMatches
  repeat (first | (with_reducible refine wpAny_loadPart_at he ?_; rw [hcls]) | with_reducible refine wpAny_loadPart_at hD ?_ | (with_reducible refine wpAny_isSubtype_exc hD ?_; rw [b1]) | (with_reducible refine PySem.W.Looks.at (PySem.W.looks_mroIn kin up) ?_) | wp_step)
  exact hq
theorem ps_tryAs {x n : Str} {D : Addr} {iN : Nat} {np hp pos : Pos} {body suite : List Stmt} {b₀ : Stmt} {tb : St → XK → TS} {th : TS} (stk : X.stack = X.env :: X.outer) (fr : X.env.frame = some X.env.locals) (nd : X.N.Nodup) (at_ : X.N[iN]? = some n) (lc : X.env.scope.names.lookup n = some .local) (T : Exc X.K X.mg x D)
    (hb : ∀ (pn : List (Addr × Obj)) (W : Value → Shared → Prop) (σ : St) (E : XK), PassAt (CXN X.prog X.w) (cxBody X pn W) σ E → PSs (cxBody X pn W) body (tb σ E)) (hh : ∀ (pn : List (Addr × Obj)) (e : Addr), PSs (cxHand X pn e) (b₀ :: suite) th) (hg : Gl X x := by rfl) (hd : (x == ("__debug__" : Str)) = false := by decide) :
    PS X (.Try body [.ExceptHandler (some (.Name x np)) (some n) (b₀ :: suite) hp] [] [] pos) (fun Dn σ H => tb σ (fun cls dct H' => ∃ C, cls = .ref C ∧ Under X.K C D ∧ ∀ a, H' a = none → th { Dn with nx := fun σ' H'' => Dn.nx (σ'.set iN none) H'', bk := fun σ' H'' => Dn.bk (σ'.set iN none) H'', ct := fun σ' H'' => Dn.ct (σ'.set iN none) H'' } (σ.set iN (some (.ref a))) (upd H' a (isExc a C dct))) Dn σ H) := by
  intro pins s σ H Dn I h
  refine wpAny_Try_except (wpAny_mono (hb (X.pn ++ pins) (fun e s₁ => wpAny (model X.prog X.w) X.A (noteFrame e X.env) (fun _ s₂ => wpAny (model X.prog X.w) X.A (setFlight e none) (fun _ s₃ => wpAny (model X.prog X.w) X.A (handleBy e X.env [.ExceptHandler (some (.Name x np)) (some n) (b₀ :: suite) hp]) (SP X pins Dn) X.xe s₃) X.xe s₂) X.xe s₁) σ _ ?_ [] s σ H Dn I.toBody h) (fun f s1 q => ?_) fun _ _ q => q)
  · intro pins' H1 s1 e s2 I1 hc
    obtain ⟨a, cls, dct, B, H2, rfl, os, bare, al, air, C, rfl, U, hth⟩ := hc
    have I1 : Inv X pins σ H1 s1 := Inv.ofBody I1
    have al : Aloft B X.stack a (.ref C) dct s2.heap := al
    have air : Air X.prog X.w (frs X.stack) [] H1 s1.heap B H2 s2.heap := air
    have hfr : X.A.frames = some (X.env :: X.outer) := by rw [← stk]; exact I.ok.frames
    have al' : Aloft B (X.env :: X.outer) a (.ref C) dct s2.heap := by rw [← stk]; exact al
    refine note_any hfr fr al' fun g hgd u => ?_
    have hgd : Aloft B X.stack a (.ref C) dct g := by rw [stk]; exact hgd
    have air1 : Air X.prog X.w (frs X.stack) [] H1 s1.heap B H2 g := Air.up air al.fr u
    refine set_any (s := { s2 with heap := g }) hgd fun g2 al2 u2 => ?_
    have air2 : Air X.prog X.w (frs X.stack) [] H1 s1.heap B H2 g2 := Air.up air1 hgd.fr u2
    have I2 : Inv X pins σ H2 { s2 with heap := g2 } := I1.landed (s' := { s2 with heap := g2 }) os bare al2 air2
    have I2h : Inv (cxHand X (X.pn ++ pins) a) [] σ H2 { s2 with heap := g2 } := I2.toHand
    refine wpAny_handleBy_cons (codeAny_handlers_test ?_) (by intro q; cases q)
    refine ld_glob (X := cxHand X (X.pn ++ pins) a) I2h hg T.mg ?_ hd
    obtain ⟨tl, N, nm, q, bs, hdct, sn, sub, ab, col, dd, k0, k1, k2, k3, k5, mN, hC, hN, hni, TL⟩ := (own_at I.ok.mod.kin T.mg T.ok).obj
    obtain ⟨b0, fl, tr⟩ := id al2.tr
    obtain ⟨ob, hob, hobc⟩ := tr.there
    refine match_up I2.kIn U.up (I2.bk _ _ hC) hob hobc (TL.hasType rfl) (codeAny_handlers_suite_as ?_)
    refine set_any (s := { s2 with heap := g2 }) al2 fun g3 al3 u3 => ?_
    have air3 : Air X.prog X.w (frs X.stack) [] H1 s1.heap B H2 g3 := Air.up air2 al2.fr u3
    obtain ⟨fre, I3⟩ := I1.landedAs (s' := { s2 with heap := g3 }) os bare al3 air3
    have I3h : Inv (cxHand X (X.pn ++ pins) a) [] σ (upd H2 a (isExc a C dct)) { s2 with heap := g3 } := I3.toHand
    refine store_ok (X := cxHand X (X.pn ++ pins) a) (v := .ref a) I3h nd at_ (.inl lc) rfl (fun s5 I5 => ?_) (.inr lc)
    refine wpAny_mono (hh (X.pn ++ pins) a [] _ _ _ _ I5 (hth a fre)) (fun f s6 q => ?_) fun _ _ z => False.elim z
    cases f with
    | next => obtain ⟨σ6, H6, I6, q6⟩ := q; exact gone_ok (Inv.ofHand I.ok I6) nd at_ lc fun s7 I7 => ⟨_, _, I7, q6⟩
    | brk => obtain ⟨σ6, H6, I6, q6⟩ := q; exact gone_ok (Inv.ofHand I.ok I6) nd at_ lc fun s7 I7 => ⟨_, _, I7, q6⟩
    | cont => obtain ⟨σ6, H6, I6, q6⟩ := q; exact gone_ok (Inv.ofHand I.ok I6) nd at_ lc fun s7 I7 => ⟨_, _, I7, q6⟩
    | ret u => obtain ⟨v, σ6, H6, I6, r6, q6⟩ := q; exact gone_ok (Inv.ofHand I.ok I6) nd at_ lc fun s7 I7 => ⟨v, _, _, I7, r6, q6⟩
  · have q : SP X pins Dn f s1 := SP.mono (fun _ _ Ib => Inv.ofBody Ib) q
    cases f with
    | next => exact wpAny_pure q
    | brk => exact q
    | cont => exact q
    | ret u => exact q
end
end L2

/-! what is asked of a caught exception: its class, its fields. -/
namespace L2
open PySem PySem.Spec PySem.W PyProof.Rows
/-- an own exception class, as attributes of its instances are looked up -/
structure XCls (K : Frag) (C : Addr) : Prop where
  ga : findIn K (.ref C) "__getattribute__" = some (some (.builtin "BaseException.__getattribute__"))
  gh : findIn K (.ref C) "__getattr__" = some none
  cl : findIn K (.ref C) "__class__" = some (some (.builtin "object.__class__"))
  gt : specialIn K (.builtin "object.__class__") "__get__" = some (some (.builtin "getset_descriptor.__get__"))
  tk : takesIn K (.builtin "object.__class__") = some true
  ob : mroIn K C (.type "object") = some true
  bx : mroIn K C (.type "BaseException") = some true
  dc : hasDictIn K C = true
section
variable {prog : Program} {w : World} {A : Around} {E : Value → Shared → Prop} {s : Shared} {K : Frag} {x C : Addr} {ox : Obj} {od : Option Obj} {name : Str}
theorem x_check {nv : Value} {Q : Unit → Shared → Prop} (kin : K.In s.heap) (I : InstAt s.heap x ox C od) (T : XCls K C) (q : Q () s) : wpAny (model prog w) A (checkBuiltinCall "BaseException.__getattribute__" ⟨[.ref x, nv], []⟩) Q E s := by
  obtain ⟨hh, g, d, t, os⟩ := s
  have k1 : builtinKind "BaseException.__getattribute__" = some .slot := by decide +kernel
  have k2 : splitId "BaseException.__getattribute__" = some ("BaseException", "__getattribute__") := by decide +kernel
  have L0 := I.type (M := model prog w)
  have L1 := looks_mroIn (M := model prog w) kin T.bx
  have LI : Looks (model prog w) hh (isInstance (.ref x) (.type "BaseException")) true := L0.andThen L1
  have ha := F.args_bexc_ga (.ref x) nv
  simp only [checkBuiltinCall, k1, k2]
  refine wpAny_bind (LI.at ?_)
  repeat (any_goals (first | assumption | wp_step))
theorem x_value {v : Value} {tk : Tok} {Q : Fin → Shared → Prop} (kin : K.In s.heap) (I : InstAt s.heap x ox C od) (hf : findObj K C od name = some (.value v)) (q : Q (.done (.ret v)) s) :
    wpAny (model prog w) A (Builtin.«object.__getattribute__» ⟨[.ref x, .str name tk], []⟩) Q E s := by
  obtain ⟨hh, g, d, t, os⟩ := s
  have L0 := I.type (M := model prog w)
  have L1 := looks_find (M := model prog w) kin I hf
  refine wpAny_bind (wpAny_pure (wpAny_bind (wpAny_pure (wpAny_bind (L0.at (wpAny_bind (L1.at ?_)))))))
  exact wpAny_pure q
theorem x_bind {gv a : Value} {tk : Tok} {P : Value → Shared → Prop} (kin : K.In s.heap) (I : InstAt s.heap x ox C od) (hf : findObj K C od name = some (.bind gv a)) (q : wpAny (model prog w) A (call gv [a, .ref x, .ref C]) P E s) :
    wpAny (model prog w) A (Builtin.«object.__getattribute__» ⟨[.ref x, .str name tk], []⟩) (fun fin s' => match fin with | .done (.ret v) => P v s' | _ => False) E s := by
  obtain ⟨hh, g, d, t, os⟩ := s
  have L0 := I.type (M := model prog w)
  have L1 := looks_find (M := model prog w) kin I hf
  refine wpAny_bind (wpAny_pure (wpAny_bind (wpAny_pure (wpAny_bind (L0.at (wpAny_bind (L1.at ?_)))))))
  show wpAny _ _ (holding [a] (call gv [a, .ref x, .ref C]) >>= ret) _ _ _
  exact wpAny_bind (wpAny_holding (wpAny_mono q (fun v s' z => wpAny_pure z) fun _ _ z => z))
/-- the attribute of an exception, through its own __getattribute__ -/
theorem x_by {tk : Tok} {fill ex : Bool} {Q : Value → Shared → Prop} {s : Shared} (kin : K.In s.heap) (I : InstAt s.heap x ox C od) (T : XCls K C)
    (q : wpAny (model prog w) A.in1 (Builtin.«object.__getattribute__» ⟨[.ref x, .str name tk], []⟩) (fun fin s' => match fin with | .done (.ret v) => wpAny (model prog w) A (handedOut v) Q E s' | _ => False) (fun _ _ => False) s) :
    wpAny (model prog w) A (getAttrBy (.ref x) (.str name tk) fill ex) Q E s := by
  obtain ⟨hh, g, d, t, os⟩ := s
  have L0 := I.type (M := model prog w)
  have L1 := looks_findIn (M := model prog w) kin T.ga
  have L2 := looks_findIn (M := model prog w) kin T.gh
  have f3 := F.excAttr_ValueError.ga.bind (.ref x)
  have hx0 : (ex && onTheHeap (Value.builtin "BaseException.__getattribute__")) = false := by cases ex <;> rfl
  unfold getAttrBy
  refine wpAny_holding (wpAny_bind (L0.at (wpAny_bind (L1.at ?_))))
  show wpAny _ _ (getAttrByItsOwn _ _ _ _ _ _) _ _ _
  unfold getAttrByItsOwn
  refine wpAny_bind (L2.at ?_)
  refine wpAny_bind (wpAny_attempt (wpAny_holding ?_))
  unfold callGetattribute
  rw [if_neg (by rw [hx0]; decide)]
  unfold boundAndCalled
  rw [f3]
  refine wpAny_bind (wpAny_pure ?_)
  refine wpAny_call (codeAny_call_builtin F.excAttr_ValueError.ga.plain F.entry_bexc_ga (x_check kin I T ?_))
  refine wpAny_mono q (fun fin s' z => ?_) fun _ _ z => z.elim
  rcases fin with (_ | _ | _ | _) | _ <;> first | exact z | exact z.elim
end
end L2

/-! isinstance of a caught exception; its fields. -/
namespace L2
open PySem PySem.Spec PySem.W PyProof.Rows
section
variable {K : Frag} {x C : Addr}
theorem xfind {od : Option Obj} {name : Str} {a g : Value} (hc : (clsIn K C).isSome = true) (ha : findIn K (.ref C) name = some (some a)) (hg : specialIn K a "__get__" = some (some g)) (ht : takesIn K a = some true) : findObj K C od name = some (.bind g a) := by
  obtain ⟨cd, hc⟩ := Option.isSome_iff_exists.mp hc
  unfold findObj
  rw [hc, Option.bind_some, ha, Option.bind_some]
  simp [hg, ht]
theorem XCls.cls (T : XCls K C) : ∃ cd, clsIn K C = some cd := by
  obtain ⟨cd, hc, _⟩ := any_some T.dc
  exact ⟨cd, hc⟩
def XAt (x C : Addr) (h : Heap) : Prop := ∃ ox od, InstAt h x ox C od
theorem kitx_exc (T : XCls K C) : KitX K (.ref x) (.ref C) (XAt x C) where
  ty := fun _ _ _ p => by
    obtain ⟨ox, od, I⟩ := p
    exact I.type
  it := fun _ _ kin _ => by
    obtain ⟨cd, hc⟩ := T.cls
    unfold clsIn at hc
    split at hc
    · rename_i ho
      intro A' Q' E' s' k q
      unfold isType loadHead
      exact wpAny_bind (wpAny_loadPart (k _ _ (kin _ _ ho)) (wpAny_pure q))
    · cases hc
  ne := fun h tp dd its n sl kin htp => by
    obtain ⟨cd, hc⟩ := T.cls
    refine Bool.eq_false_iff.mpr fun q => ?_
    have e : C = tp := Value.ref.inj (beq_iff_eq.mp q)
    subst e
    unfold clsIn at hc
    split at hc
    · rename_i ho
      have z := (kin _ _ ho).symm.trans htp
      cases z
    · cases hc
  ca := fun {prog w A E Q s} kin p k => by
    obtain ⟨ox, od, I⟩ := p
    obtain ⟨cd, hc⟩ := T.cls
    have hf : findObj K C od "__class__" = some (.bind (.builtin "getset_descriptor.__get__") (.builtin "object.__class__")) := xfind (by rw [hc]; rfl) T.cl T.gt T.tk
    unfold getAttr? getAttrBy?
    refine wpAny_bind (wpAny_mkText (wpAny_bind (wpAny_attempt ?_)))
    refine x_by (s := { s with toks := s.toks + 1 }) kin I T (x_bind (s := { s with toks := s.toks + 1 }) kin I hf (wpAny_call (class_get (s := { s with toks := s.toks + 1 }) kin I T.ob ?_)))
    exact handed_on rfl (wpAny_pure k)
end
/-- the dict of an exception, at D -/
def XD (D : Addr) (fs : List (Str × V)) : HO := .ext fun h => ∃ mA, h.Ns1 D mA ∧ (∀ f, RelO (fs.lookup f) (mA f)) ∧ PySem.Within mA (fs.map (·.1))
section
variable {X : Cx} {pins : List (Addr × Obj)} {σ : St} {H : Hp} {s : Shared}
theorem Inv.xat {a C : Addr} {d : Option Addr} (I : Inv X pins σ H s) (e : H a = some (isExc a C d)) (hd : ∀ D, d = some D → ∃ fs, H D = some (XD D fs)) : XAt a C s.heap := by
  obtain ⟨⟨o, us, p1, p2, p3, p4⟩, _, _⟩ := I.hok a _ e
  cases d with
  | none => exact ⟨o, none, p1, p2, by unfold notCls; rw [p4], by rw [p3]; trivial⟩
  | some D =>
    obtain ⟨fs, q⟩ := hd D rfl
    obtain ⟨⟨mA, ⟨od, es, ep, q1, _⟩, _⟩, _⟩ := I.hok D _ q
    exact ⟨o, some od, p1, p2, by unfold notCls; rw [p4], by rw [p3]; exact q1⟩
/-- isinstance(e, C), C an own class or a built-in one -/
theorem call_isx : CallR X (.builtin "isinstance") (fun xs H Q => ∃ a C d b, (∃ D, xs = [.ref a, .ref D] ∧ kitOne X.K (.ref C) (.ref D) = some b) ∧ H a = some (isExc a C d) ∧ (∀ D, d = some D → ∃ fs, H D = some (XD D fs)) ∧ XCls X.K C ∧ Q (.bl b) H) := by
  intro pins s σ H vs us Q I r h
  obtain ⟨a, C, d, b, ⟨D, rfl, ek⟩, e, hd, T, q⟩ := h
  cases r with
  | cons r1 r =>
  cases r with
  | cons r2 r =>
  cases r
  rename_i u1 u2
  obtain rfl : u1 = Value.ref a := r1
  obtain rfl : u2 = Value.ref D := r2
  exact kia_one (kitx_exc T) I.kIn (I.xat e hd) ek (by intro z; cases z) fun tk => ⟨.bl b, H, I.tok tk, rfl, q⟩
theorem vals_refs : ∀ {ds : List Addr} {us : List Value}, Vals (ds.map V.ref) us → us = ds.map Value.ref
  | [], _, .nil => rfl
  | d :: ds, _, .cons r t => by rw [List.map_cons, vals_refs t]; exact congrArg (· :: _) r
/-- isinstance(e, (C, D, ..)) -/
theorem call_isxT : CallR X (.builtin "isinstance") (fun xs H Q => ∃ a C d b t, ∃ ds : List Addr, xs = [.ref a, .ref t] ∧ H t = some (.tup (ds.map V.ref)) ∧ kitAny X.K (.ref C) (ds.map Value.ref) = some b ∧ H a = some (isExc a C d) ∧ (∀ D, d = some D → ∃ fs, H D = some (XD D fs)) ∧ XCls X.K C ∧ Q (.bl b) H) := by
  intro pins s σ H vs us Q I r h
  obtain ⟨a, C, d, b, t, ds, rfl, et, ek, e, hd, T, q⟩ := h
  cases r with
  | cons r1 r =>
  cases r with
  | cons r2 r =>
  cases r
  rename_i u1 u2
  obtain rfl : u1 = Value.ref a := r1
  obtain rfl : u2 = Value.ref t := r2
  obtain ⟨_, its, rv, ⟨oc, od, oda, osl⟩, p1, p2, p3, n, p4⟩ := I.hok t _ et
  have ei := vals_refs rv
  subst ei
  dsimp only at p2 p3 p4
  subst p2 p3 p4
  exact kia_tup (kitx_exc T) I.kIn (I.xat e hd) p1 ek (by intro z; cases z) fun tk => ⟨.bl b, H, I.tok tk, rfl, q⟩
/-- e.f of a caught exception -/
theorem pe_xfld {e : Expr} {f : Str} {pos : Pos} {ta : TE} (he : PE X e ta) (hb : attributeBase e f X.env (eval e X.env) = eval e X.env) :
    PE X (.Attribute e f pos) (fun σ H Q => ta σ H fun x H1 => ∃ a C D fs v, x = .ref a ∧ H1 a = some (isExc a C (some D)) ∧ H1 D = some (XD D fs) ∧ XCls X.K C ∧ NoAttr X.K C f ∧ fs.lookup f = some v ∧ Q v H1) := by
  intro pins s σ H Q I h
  refine attr_of hb (thn (he pins s σ H _ I h) fun u s1 hz0 => ?_)
  obtain ⟨x, H1, I1, rx, a, C, D, fs, v, ex, ea, eD, T, n, l, q⟩ := hz0
  subst ex
  obtain rfl : u = Value.ref a := rx
  obtain ⟨⟨o, us, p1, p2, p3, p4⟩, _, _⟩ := I1.hok a _ ea
  obtain ⟨⟨mA, ns, rl, _⟩, _⟩ := I1.hok D _ eD
  obtain ⟨od, q1, q2⟩ := lookIn_ns ns
  obtain ⟨u, hu, ru⟩ := RelO.some_of (v := v) (o := mA f) (by rw [← l]; exact rl f)
  have J : InstAt s1.heap a o C (some od) := ⟨p1, p2, by unfold notCls; rw [p4], by rw [p3]; exact q1⟩
  unfold getAttr
  refine wpAny_bind (wpAny_mkText ?_)
  refine x_by (s := { s1 with toks := s1.toks + 1 }) I1.kIn J T (x_value (s := { s1 with toks := s1.toks + 1 }) (v := u) I1.kIn J (findObj_own T.dc n rfl (by rw [q2, hu])) ?_)
  exact handed_on (handed_of ru) ⟨v, H1, I1.tok _, ru, q⟩
end
end L2

/-! an own exception class with an __init__ of its own: its call. -/
namespace L2
open PySem PySem.Spec PySem.W PyProof.Rows
abbrev bmVE : List Value := [.type "ValueError", .type "Exception", .type "BaseException", .type "object"]
/-- the heap with a new exception of C, made with these values -/
def xNew (h : Heap) (C : Addr) (us : List Value) : Heap := (h.push { cls := .type "tuple", data := .seq us.toArray }).push { cls := .ref C, data := .fields #[.ref h.objs.size, .none, .none, .none, .bool false, .none] }
theorem xNew_keep {h : Heap} {C : Addr} {us : List Value} {b : Addr} {o : Obj} (e : h.get? b = some o) : (xNew h C us).get? b = some o := Heap.get?_push_of_some _ (Heap.get?_push_of_some _ e)
theorem xNew_at {h : Heap} {C : Addr} {us : List Value} : (xNew h C us).get? (h.objs.size + 1) = some { cls := .ref C, data := .fields #[.ref h.objs.size, .none, .none, .none, .bool false, .none] } := by
  unfold xNew
  exact Heap.get?_push_at (by rw [Heap.size_push]) rfl
section
variable {prog : Program} {w : World} {A : Around} {E : Value → Shared → Prop} {h : Heap} {g : Array GenState} {d : Drawn} {t : Nat} {os : OsState}
variable {nm q : Str} {C N fI : Addr} {bs bm bmB : List Value} {hdct : Bool} {sn : List Str} {sub : List Value} {ab : Bool} {col : Option Bool} {dd : Option Addr} {k0 k1 k2 k3 k5 : Option Value} {B newId initId : String} {us : List Value} {oI : Obj}
theorem xcall_type {Q : Fin → Shared → Prop} (F : ExcBaseFacts B newId initId bmB) (T : OwnTail h bmB bm) (hC : h.get? C = some (excClassObj nm q C N bs bm hdct sn sub ab col dd k0 k1 k2 k3 k5 newId))
    (kl : Looks (model prog w) h (typeLookup (.ref C) "__init__") (some (.ref fI))) (hf : h.get? fI = some oI) (hc : oI.cls = .type "function") (hlen : us.length ≤ sizeLine)
    (k : wpAny (model prog w) A (call (.ref fI) (.ref (h.objs.size + 1) :: us)) (fun r s' => r = .none ∧ Q (.done (.ret (.ref (h.objs.size + 1)))) s') E ⟨xNew h C us, g, d, t, os⟩) :
    wpAny (model prog w) A (Builtin.«type.__call__» ⟨.ref C :: us, []⟩) Q E ⟨h, g, d, t, os⟩ := by
  repeat (first | with_reducible refine wpAny_loadPart_at hC ?_ | with_reducible refine wpAny_madeBy_exc hC ?_ | wp_step)
  refine codeAny_call_builtin_code (Code.quiet_builtin _ F.quiet) (wpAny_check_new_subT F T hC (codeAny_exc_new_subT F T hC ?_ hlen))
  show wpAny _ _ _ _ _ (⟨xNew h C us, g, d, t, os⟩ : Shared)
  have c1 : (xNew h C us).get? C = _ := xNew_keep hC
  have x1 := xNew_at (h := h) (C := C) (us := us)
  have f1 : (xNew h C us).get? fI = some oI := xNew_keep hf
  have l1 := kl.keeps (h' := xNew h C us) fun b o e => xNew_keep e
  have inn : (Value.ref C :: bm).contains (.ref C) = true := by simp
  generalize xNew h C us = h1 at k c1 x1 f1 l1 ⊢
  unfold isInstance
  repeat (first | with_reducible refine wpAny_loadPart_at x1 ?_ | (with_reducible refine wpAny_isSubtype_exc c1 ?_; rw [inn]) | wp_step)
  show wpAny _ _ (typeLookup (.ref C) _) _ _ _
  refine l1.at ?_
  refine wpAny_holding (wpAny_bind ?_)
  unfold bindSpecial
  refine wpAny_bind (wpAny_typeOf (T := "function") ⟨_, f1, hc⟩ ?_)
  rw [if_pos (by decide)]
  refine wpAny_pure (wpAny_bind (wpAny_mono k (fun r s' hr => ?_) fun _ _ z => z))
  obtain ⟨rfl, hQ⟩ := hr
  wp_walk
  exact hQ
theorem xcall {Q : Value → Shared → Prop} (F : ExcBaseFacts B newId initId bmB) (T : OwnTail h bmB bm) (hC : h.get? C = some (excClassObj nm q C N bs bm hdct sn sub ab col dd k0 k1 k2 k3 k5 newId))
    (kl : Looks (model prog w) h (typeLookup (.ref C) "__init__") (some (.ref fI))) (hf : h.get? fI = some oI) (hc : oI.cls = .type "function") (hlen : us.length ≤ sizeLine)
    (k : wpAny (model prog w) (A.under (.builtin "type.__call__" ⟨.ref C :: us, []⟩)) (call (.ref fI) (.ref (h.objs.size + 1) :: us)) (fun r s' => r = .none ∧ Q (.ref (h.objs.size + 1)) s') E ⟨xNew h C us, g, d, t, os⟩) :
    wpAny (model prog w) A (call (.ref C) us) Q E ⟨h, g, d, t, os⟩ := by
  have z1 := tc_lookup
  have z2 := tc_bind (.ref C)
  have z3 : (⟨h, g, d, t, os⟩ : Shared).TypeIs (.ref C) "type" := ⟨_, hC, rfl⟩
  refine wpAny_call (codeAny_of_tree ?_)
  show wpAny _ _ (callAny (.ref C) _) _ _ _
  repeat (any_goals (first | assumption | with_reducible refine wpAny_loadPart_at hC ?_ | wp_step))
  refine ⟨rfl, codeAny_call_builtin_at (Code.quiet_builtin _ (by decide +kernel)) entry_typeCall (wpAny_check_type_call_sub hC (xcall_type F T hC kl hf hc hlen ?_))⟩
  exact k
end
end L2

/-! fields set on an exception in its __init__. -/
namespace L2
open PySem PySem.Spec PySem.W PyProof.Rows Builtin Builtin.ObjectAttr
section
variable {prog : Program} {w : World} {A : Around} {E : Value → Shared → Prop} {s : Shared} {K : Frag} {x C P : Addr} {ox : Obj} {od : Option Obj} {name : Str}
theorem x_open {tk : Tok} {v : Value} {R : Result → Shared → Prop} (kin : K.In s.heap) (J : InstAt s.heap x ox C od) (hm : Looks (model prog w) s.heap (mroOf (.ref C)) (.ref C :: .ref P :: bmVE)) (ob : mroIn K C (.type "object") = some true) (na : findIn K (.ref C) name = some none)
    (k : wpAny (model prog w) A.in1 (storeInOwnDict (.ref x) (.ref C) (.str name tk) name v false)
      (fun fin s' => match fin with | .done f => R (.ok f) s' | .again c' => c'.quiet = true ∧ codeAny (model prog w) A c' R s') (fun e s' => R (.error e) s') s) :
    codeAny (model prog w) A (.call (.builtin "object.__setattr__") ⟨[.ref x, .str name tk, v], []⟩) R s := by
  have SF := PySem.F.store_ValueError
  have LI : Looks (model prog w) s.heap (isInstance (.ref x) (.type "object")) true := J.type.andThen (looks_mroIn kin ob)
  refine codeAny_call_builtin SF.slot.plain SF.entry (@check_slot (model prog w) _ _ s "object.__setattr__" "object" "__setattr__" (.ref x) [.str name tk, v] [] _ SF.kind SF.split LI (SF.args (.ref x) (.str name tk) v) ?_)
  rw [osa_eq, refuse_eq]
  refine wpAny_bind (wpAny_bind (J.type.here (wpAny_bind (hm.here ?_))))
  rw [refuseLoop_ref, refuseLoop_ref, SF.passes]
  exact wpAny_pure (wpAny_bind (J.type.here (wpAny_bind ((looks_findIn kin na).here (wpAny_bind (wpAny_pure k))))))
/-- the first field: a dict is made -/
theorem x_set0 {v : Value} {us : Array Value} {Q : Unit → Shared → Prop} (kin : K.In s.heap) (T : XCls K C) (hs : findIn K (.ref C) "__setattr__" = some (some (.builtin "object.__setattr__"))) (hm : Looks (model prog w) s.heap (mroOf (.ref C)) (.ref C :: .ref P :: bmVE)) (na : findIn K (.ref C) name = some none)
    (e1 : s.heap.get? x = some ⟨.ref C, none, .fields us, ox.slots⟩)
    (k : ∀ h' tk, h'.Ns1 s.heap.objs.size (fun y => if y = name then some v else none) → h'.get? x = some ⟨.ref C, some s.heap.objs.size, .fields us, ox.slots⟩ → (∀ b o, b ≠ x → s.heap.get? b = some o → h'.get? b = some o) → Q () { s with heap := h', toks := tk }) :
    wpAny (model prog w) A (setAttr (.ref x) name v) Q E s := by
  have J : InstAt s.heap x ⟨.ref C, none, .fields us, ox.slots⟩ C none := ⟨e1, rfl, rfl, trivial⟩
  refine set_plain kin J hs (x_open (s := { s with toks := s.toks + 1 }) kin J hm T.ob na ?_)
  obtain ⟨cd, hc, hd⟩ := any_some T.dc
  obtain ⟨hh, g, dr, t, os⟩ := s
  refine wpAny_bind (wpAny_pure (wpAny_bind (wpAny_bind (wpAny_loadPart e1 (wpAny_bind ((looks_clsIn kin hc).at ?_))))))
  rw [hd]
  simp only [Bool.not_true, Bool.false_eq_true, if_false]
  rw [if_neg (by simp [typeHasDict])]
  have x1 : (hh.push { cls := .type "dict", data := .dict #[] }).get? x = some ⟨.ref C, none, .fields us, ox.slots⟩ := Heap.get?_push_of_some _ e1
  have xs : x ≠ hh.objs.size := Nat.ne_of_lt (Heap.lt_size e1)
  refine wpAny_bind (wpAny_alloc' (wpAny_bind (wpAny_update' x1 (wpAny_pure ?_))))
  have d2 : ((hh.push { cls := .type "dict", data := .dict #[] }).update x fun o => { cls := o.cls, dict := some hh.objs.size, data := o.data, slots := o.slots }).get? hh.objs.size = some { cls := .type "dict", data := .dict #[] } :=
    (Heap.get?_update_ne _ _ _ _ xs.symm).trans (Heap.get?_push_at rfl rfl)
  have n2 : ((hh.push { cls := .type "dict", data := .dict #[] }).update x fun o => { cls := o.cls, dict := some hh.objs.size, data := o.data, slots := o.slots }).Ns hh.objs.size (fun _ => none) := ⟨_, #[], _, d2, rfl, fun e he => absurd he (by simp), fun _ => rfl⟩
  show wpAny _ _ (storeInDict hh.objs.size (.str name t) name v) _ _ _
  unfold storeInDict newKeyGuard
  refine wpAny_bind (wpAny_pure (wpAny_bind (wpAny_nsSet1 (Heap.Ns1.of_empty n2) fun h' n3 same => ?_)))
  obtain ⟨oD, eD, pD, gD, hD, cD⟩ := n3.count (Within.cons name v Within.nil)
  refine wpAny_bind (wpAny_lookBehind gD (by rw [hD]; exact pastItsLine_dict (Nat.le_trans cD (by rw [List.length_cons, List.length_nil, sizeLine_eq]; omega))) ?_)
  refine wpAny_pure (k h' _ n3 ?_ fun b o nb e => ?_)
  · exact (same.2 x xs).trans (Heap.get?_update_self _ x1 rfl)
  · exact (same.2 b (Nat.ne_of_lt (Heap.lt_size e))).trans ((Heap.get?_update_ne _ _ _ _ nb).trans (Heap.get?_push_of_some _ e))
/-- another field: into the dict that is there -/
theorem x_set1 {v : Value} {us : Array Value} {D : Addr} {mA : Str → Option Value} {ns : List Str} {Q : Unit → Shared → Prop} (kin : K.In s.heap) (T : XCls K C) (hs : findIn K (.ref C) "__setattr__" = some (some (.builtin "object.__setattr__"))) (hm : Looks (model prog w) s.heap (mroOf (.ref C)) (.ref C :: .ref P :: bmVE)) (na : findIn K (.ref C) name = some none)
    (e1 : s.heap.get? x = some ⟨.ref C, some D, .fields us, ox.slots⟩) (n1 : s.heap.Ns1 D mA) (hw : Within mA ns) (hz : ns.length < 1000)
    (k : ∀ h' tk, h'.Ns1 D (fun y => if y = name then some v else mA y) → Heap.SameBut D s.heap h' → Q () { s with heap := h', toks := tk }) :
    wpAny (model prog w) A (setAttr (.ref x) name v) Q E s := by
  obtain ⟨oA, q1, _⟩ := lookIn_ns n1
  have J : InstAt s.heap x ⟨.ref C, some D, .fields us, ox.slots⟩ C (some oA) := ⟨e1, rfl, rfl, q1⟩
  refine set_plain kin J hs (x_open (s := { s with toks := s.toks + 1 }) kin J hm T.ob na ?_)
  obtain ⟨cd, hc, hd⟩ := any_some T.dc
  obtain ⟨hh, g, dr, t, os⟩ := s
  refine wpAny_bind (wpAny_pure (wpAny_bind (wpAny_bind (wpAny_loadPart e1 (wpAny_bind ((looks_clsIn kin hc).at ?_))))))
  rw [hd]
  refine wpAny_pure (a := some D) (wpAny_bind (wpAny_pure (wpAny_bind (wpAny_nsSet1 n1 fun h' n3 same => ?_))))
  obtain ⟨oD, eD, pD, gD, hD, cD⟩ := n3.count (Within.cons name v hw)
  refine wpAny_bind (wpAny_lookBehind gD (by rw [hD]; exact pastItsLine_dict (Nat.le_trans cD (by rw [List.length_cons, sizeLine_eq]; omega))) ?_)
  exact wpAny_pure (k h' _ n3 same)
end
end L2

/-! the __init__ of an own exception: the base's, and the fields. -/
namespace L2
open PySem PySem.Spec PySem.W PyProof.Rows
/-- an exception that is being made: not raised yet -/
def XN (x C : Addr) (d : Option Addr) : HO := .ext fun h => ∃ o us z0, h.get? x = some o ∧ o.cls = .ref C ∧ o.dict = d ∧ o.data = .fields us ∧ us[0]? = some (.ref z0) ∧ us[1]? = some .none
theorem XN.stay {x C : Addr} {d : Option Addr} {P : Program} {w : World} {H : Hp} {h : Heap} {o : Obj} {us : Array Value} {z0 : Addr} (p1 : h.get? x = some o) (p2 : o.cls = .ref C) (p3 : o.dict = d) (p4 : o.data = .fields us) (p5 : us[0]? = some (.ref z0)) (p6 : us[1]? = some .none) : ObjOk P w H h x (XN x C d) :=
  ⟨⟨o, us, z0, p1, p2, p3, p4, p5, p6⟩, ⟨o, p1⟩, fun _ _ ⟨o, us, z0, p, r⟩ k => ⟨o, us, z0, k o p, r⟩⟩
theorem XD.stay {D : Addr} {fs : List (Str × V)} {P : Program} {w : World} {H : Hp} {h : Heap} {mA : Str → Option Value} (n : h.Ns1 D mA) (r : ∀ f, RelO (fs.lookup f) (mA f)) (wi : PySem.Within mA (fs.map (·.1))) : ObjOk P w H h D (XD D fs) :=
  ⟨⟨mA, n, r, wi⟩, let ⟨o, _, _, e, _⟩ := n; ⟨o, e⟩, fun _ _ ⟨mA, ⟨o, es, ep, e, c⟩, r⟩ k => ⟨mA, ⟨o, es, ep, k o e, c⟩, r⟩⟩
theorem upd_id {H : Hp} {x : Addr} {o : HO} (e : H x = some o) : upd H x o = H := by
  funext b
  unfold upd
  split
  · rename_i q; rw [q, e]
  · rfl
/-- an own exception class with an __init__ f of its own, under the class P -/
structure XMk (K : Frag) (C P f : Addr) : Prop where
  lk : ∃ nm q N bs sn sub ab col dd k0 k1 k2 k3 k5, K.lookup C = some (excClassObj nm q C N bs (.ref P :: bmVE) true sn sub ab col dd k0 k1 k2 k3 k5 "ValueError.__new__")
  up : excIn K P bmVE "ValueError.__new__" = true
  init : findIn K (.ref C) "__init__" = some (some (.ref f))
  fn : isFn K (.ref f) = true
  kp : keepIn K (.ref C) = true
  sa : findIn K (.ref C) "__setattr__" = some (some (.builtin "object.__setattr__"))
theorem XMk.tail {K : Frag} {C P f : Addr} {h : Heap} (M : XMk K C P f) (kin : K.In h) : ∃ nm q N bs sn sub ab col dd k0 k1 k2 k3 k5, h.get? C = some (excClassObj nm q C N bs (.ref P :: bmVE) true sn sub ab col dd k0 k1 k2 k3 k5 "ValueError.__new__") ∧ OwnTail h bmVE (.ref P :: bmVE) := by
  obtain ⟨nm, q, N, bs, sn, sub, ab, col, dd, k0, k1, k2, k3, k5, e⟩ := M.lk
  obtain ⟨tl, N', nm', q', bs', hdct', sn', sub', ab', col', dd', j0, j1, j2, j3, j5, mN, hP, hN, hni, _⟩ := (own_at (mg := fun _ => some (.ref P)) (x := "") kin rfl M.up).obj
  exact ⟨nm, q, N, bs, sn, sub, ab, col, dd, k0, k1, k2, k3, k5, kin _ _ e, .own hP hN hni .base⟩
section
variable {X : Cx} {pins : List (Addr × Obj)} {σ : St} {H : Hp} {s : Shared} {A : Around} {E : Value → Shared → Prop}
theorem init_up {x C P f : Addr} {d : Option Addr} {a b : Value} {Q : Value → Shared → Prop} (I : Inv X pins σ H s) (e : H x = some (XN x C d)) (M : XMk X.K C P f) (k : ∀ s', Inv X pins σ H s' → Q .none s') :
    wpAny (model X.prog X.w) A (call (.builtin "ValueError.__init__") [.ref x, a, b]) Q E s := by
  have F := PySem.F.excBase_ValueError
  obtain ⟨⟨o, us, z0, p1, p2, p3, p4, p5, p6⟩, _, _⟩ := I.hok x _ e
  obtain ⟨nm, q, N, bs, sn, sub, ab, col, dd, k0, k1, k2, k3, k5, hC, T⟩ := M.tail I.kIn
  obtain ⟨hh, g, dr, t, os⟩ := s
  refine wpAny_call (codeAny_call_builtin F.init.plain F.initEntry (wpAny_check_init_subT F T hC p1 p2 ?_))
  have ob : (hh.push { cls := .type "tuple", data := .seq [a, b].toArray }).get? x = some o := Heap.get?_push_of_some _ p1
  unfold Builtin.«BaseException.__init__»
  repeat (first | with_reducible refine wpAny_field ob p4 p5 ?_ | with_reducible refine wpAny_setField ob p4 (Array.getElem?_eq_some_iff.mp p5).1 ?_ | wp_step)
  have I1 : Inv X pins σ H ⟨hh.push { cls := .type "tuple", data := .seq [a, b].toArray }, g, dr, t, os⟩ := I.kept (t' := t) fun b u q => Heap.get?_push_of_some _ q
  have sz : 0 < us.size := (Array.getElem?_eq_some_iff.mp p5).1
  have n1 := Heap.get?_update_self (Obj.mapFields (·.setIfInBounds 0 (Value.ref hh.objs.size))) ob (Obj.isFreed_of_fields (Obj.data_mapFields p4 _))
  have I2 := I1.write (x := x) (e := x) (o := XN x C d) (t' := t) (h' := (hh.push { cls := .type "tuple", data := .seq [a, b].toArray }).update x (Obj.mapFields (·.setIfInBounds 0 (Value.ref hh.objs.size)))) (by rw [e]; exact True.intro) (.inl rfl) (fun b u nb q => (Heap.get?_update_other _ _ nb.symm).trans q) ⟨_, n1⟩
    (XN.stay n1 ((Obj.cls_mapFields _ _).trans p2) ((mapFields_dict _ _).trans p3) (Obj.data_mapFields p4 _) (z0 := hh.objs.size) (by simp [sz]) (by rw [Array.getElem?_setIfInBounds_ne (by decide)]; exact p6))
  rw [upd_id e] at I2
  exact k _ I2
end
end L2

/-! rules: C.__init__(self, a, b) of the base, self.f = e, C(a, b), raise C(a, b), for an own exception. -/
namespace L2
open PySem PySem.Spec PySem.W PyProof.Rows
/-- the base class's own __init__, read off the class -/
structure UpCls (K : Frag) (P : Addr) : Prop where
  ga : specialIn K (.ref P) "__getattribute__" = some (some (.builtin "type.__getattribute__"))
  rd : readsIn K P (.type "type") = true
  at_ : findCls K (.ref P) (.type "type") "__init__" = some (.val (.builtin "ValueError.__init__"))
section
variable {X : Cx}
/-- what was laid at D since the state s is tracked from now on -/
theorem xlaid {pins : List (Addr × Obj)} {σ : St} {H H' : Hp} {s s' : Shared} {D : Addr} {o : HO} (I : Inv X pins σ H s) (J : Inv X pins σ H' s') (nD : H' D = none) (hp : s.heap.objs.size ≤ D) (new : ObjOk X.prog X.w (upd H' D o) s'.heap D o) : Inv X pins σ (upd H' D o) s' := by
  have low : ∀ b, b < s.heap.objs.size → b ≠ D := fun b hb z => by rw [z] at hb; exact Nat.lt_irrefl _ (Nat.lt_of_lt_of_le hb hp)
  refine ⟨J.ok, J.os, J.bare, { keep := J.base.keep, slot := J.base.slot, free := fun b u e n x => ?_, there := J.base.there, tups := fun b xs e => ?_, frzs := fun b u v e => ?_, tbls := fun b ps e => ?_ }, J.loc, J.cell, ?_, fun y c e => ?_, fun p m => ?_, J.hok.take nD new, J.len⟩
  · rw [upd_ne (low b (Nat.lt_of_lt_of_le (Heap.lt_size e) I.sz))]; exact J.base.free b u e n x
  · have q := J.base.tups b xs e
    rw [upd_ne (ne_of_none q nD)]; exact q
  · have q := J.base.frzs b u v e
    rw [upd_ne (ne_of_none q nD)]; exact q
  · obtain ⟨more, q⟩ := J.base.tbls b ps e
    exact ⟨more, by rw [upd_ne (ne_of_none q nD)]; exact q⟩
  · rw [upd_ne (low _ I.lt)]; exact J.free
  · obtain ⟨v, u, q, _⟩ := I.cell y c e
    rw [upd_ne (low _ (Heap.lt_size q))]; exact J.freeC y c e
  · obtain ⟨a1, a2, a3, a4, a5⟩ := J.pin p m
    refine ⟨a1, ?_, a3, a4, a5⟩
    rw [upd_ne (low _ (Heap.lt_size (I.pin p m).1))]; exact a2
theorem pe_upInit {P C f0 : Addr} {x : Str} {e1 e2 e3 : Expr} {p apos pos : Pos} {t : TA} {pl : Sem Bool} (U : UpCls X.K P) (M : XMk X.K C P f0) (hg : Gl X x) (hm : X.mg x = some (.ref P)) (ha : PA X [e1, e2, e3] t)
    (hdb : (x == ("__debug__" : Str)) = false := by decide) (hst : starEach [e1, e2, e3] X.env = (false, eval e1 X.env) :: starEach [e2, e3] X.env := by rfl) (hpl : (backTo pos (starEach [e2, e3] X.env)).any (·.1) = false := by rfl)
    (ht : eval (.Call (.Attribute (.Name x p) "__init__" apos) [e1, e2, e3] [] pos) X.env = (do
      let ov ← eval (.Name x p) X.env
      standAt apos.atName
      let (f, first) ← holding [ov] (getMethod ov "__init__" pl)
      callWith pos f first (backTo pos (starEach [e1, e2, e3] X.env)) (backToKw pos (keywordEach [] X.env))) := by rfl) :
    PE X (.Call (.Attribute (.Name x p) "__init__" apos) [e1, e2, e3] [] pos) (fun σ H Q => t σ H fun vs H1 => ∃ y a b d, vs = [.ref y, a, b] ∧ H1 y = some (XN y C d) ∧ Q .non H1) := by
  intro pins s σ H Q I h
  refine methodCall_KW (pl := pl) (ld_glob I hg hm ?_ hdb) ht
  refine method_cls I.kIn U.ga (cls_value I.kIn U.rd U.at_ rfl ?_)
  have I0 : Inv X pins σ H { s with toks := s.toks + 1 } := I.tok _
  refine PyProof.Rows.callWith_builtin1 (thn (ha pos pins _ σ H _ I0 h) fun us s1 hz0 => ?_) hst hpl
  obtain ⟨vs, H1, I1, r, y, a, b, d, ev, ey, q⟩ := hz0
  subst ev
  cases r with
  | cons r1 r =>
  cases r with
  | cons r2 r =>
  cases r with
  | cons r3 r =>
  cases r
  obtain rfl : _ = Value.ref y := r1
  exact init_up I1 ey M fun s' I' => ⟨.non, H1, I', rfl, q⟩
theorem XMk.mro {K : Frag} {C P f : Addr} {h : Heap} {M' : Model} (M : XMk K C P f) (kin : K.In h) : Looks M' h (mroOf (.ref C)) (.ref C :: .ref P :: bmVE) := by
  obtain ⟨nm, q, N, bs, sn, sub, ab, col, dd, k0, k1, k2, k3, k5, e⟩ := M.lk
  have hc : clsIn K C = some { name := nm, bases := bs, mro := .ref C :: .ref P :: bmVE, ns := N, qualname := q, hasDict := true, slotNames := sn, subclasses := sub, abstract := ab, collection := col, hasDel := false } := by
    unfold clsIn
    rw [e]
  exact (looks_clsIn kin hc).andThen .now
/-- self.f = e: the first one makes the dict, the others go into it -/
theorem ps_xset {C P f0 : Addr} {o value : Expr} {f : Str} {pos pos' : Pos} {ta tv : TE} (M : XMk X.K C P f0) (T : XCls X.K C) (na : NoAttr X.K C f) (ha : PE X o ta) (hv : PE X value tv) (hs : swapsWith value (some (.Attribute o f pos')) pos.line X.env = pure false := by rfl) :
    PS X (.Assign [.Attribute o f pos'] value pos) (fun Dn σ H => tv σ H fun y H1 => ta σ H1 fun x H2 => ∃ a, x = .ref a ∧
      ((H2 a = some (XN a C none) ∧ ∀ D, H2 D = none → D ≠ a → Dn.nx σ (upd (upd H2 a (XN a C (some D))) D (XD D [(f, y)]))) ∨
       (∃ D fs, H2 a = some (XN a C (some D)) ∧ H2 D = some (XD D fs) ∧ D ≠ a ∧ fs.length < 1000 ∧ Dn.nx σ (upd H2 D (XD D (putF f y fs)))))) := by
  intro pins s σ H Dn I h
  refine plainObj_wpAny_Assign_Attribute (thn (hv pins s σ H _ I h) fun u s1 ⟨y, H1, I1, ry, q⟩ => thn (ha pins s1 σ H1 _ I1 q) fun ov s2 hz0 => ?_) hs
  obtain ⟨x, H2, I2, rx, a, ex, q2⟩ := hz0
  subst ex
  obtain rfl : ov = Value.ref a := rx
  rcases q2 with ⟨ea, q2⟩ | ⟨D, fs, ea, eD, nD, lf, q2⟩
  · obtain ⟨⟨⟨oc, odi, oda, osl⟩, us, z0, p1, p2, p3, p4, p5, p6⟩, _, _⟩ := I2.hok a _ ea
    dsimp only at p2 p3 p4
    subst p2 p3 p4
    refine x_set0 (ox := ⟨.ref C, none, .fields us, osl⟩) I2.kIn T M.sa (M.mro I2.kIn) na p1 fun h' tk n3 e3 k3 => ?_
    have fresh : H2 s2.heap.objs.size = none := I2.hok.fresh (Nat.le_refl _)
    have ne : s2.heap.objs.size ≠ a := Nat.ne_of_gt (Heap.lt_size p1)
    have J1 : Inv X pins σ (upd H2 a (XN a C (some s2.heap.objs.size))) { s2 with heap := h', toks := tk } :=
      I2.write (x := a) (e := a) (by rw [ea]; exact True.intro) (.inl rfl) (fun b u nb q => k3 b u nb q) ⟨_, e3⟩ (XN.stay e3 rfl rfl rfl p5 p6)
    have g1 : upd H2 a (XN a C (some s2.heap.objs.size)) s2.heap.objs.size = none := by rw [upd_ne ne]; exact fresh
    refine ⟨σ, _, ?_, q2 _ fresh ne⟩
    refine xlaid I2 J1 g1 (Nat.le_refl _) (XD.stay n3 (fun g => ?_) fun g hg => ?_)
    · show RelO (List.lookup g [(f, y)]) (if g = f then some u else none)
      by_cases z : g = f
      · subst z; simp [List.lookup]; exact ry
      · have z' : (g == f) = false := by simpa using z
        rw [if_neg z]; simp [List.lookup, z']; trivial
    · by_cases z : g = f
      · rw [z]; simp
      · exact absurd (by rw [if_neg z]) hg
  · obtain ⟨⟨⟨oc, odi, oda, osl⟩, us, z0, p1, p2, p3, p4, p5, p6⟩, _, _⟩ := I2.hok a _ ea
    dsimp only at p2 p3 p4
    subst p2 p3 p4
    obtain ⟨⟨mA, n1, rl, wi⟩, _, _⟩ := I2.hok D _ eD
    refine x_set1 (ox := ⟨.ref C, some D, .fields us, osl⟩) (ns := fs.map (·.1)) I2.kIn T M.sa (M.mro I2.kIn) na p1 n1 wi (by rw [List.length_map]; exact lf) fun h' tk n3 same => ?_
    refine ⟨σ, _, I2.write (x := D) (e := D) (by rw [eD]; exact True.intro) (.inl rfl) (fun b u nb q => (same.2 b nb).trans q) (let ⟨o, _, _, e, _⟩ := n3; ⟨o, e⟩) (XD.stay n3 (fun g => ?_) fun g hg => ?_), q2⟩
    · show RelO ((putF f y fs).lookup g) (if g = f then some u else mA g)
      rw [lookup_putF]
      by_cases q : g = f
      · rw [if_pos q, if_pos q]; exact ry
      · rw [if_neg q, if_neg q]; exact rl g
    · by_cases q : g = f
      · rw [q]; exact (keys_putF f y fs).1
      · refine (keys_putF f y fs).2 g (wi g fun z => hg ?_)
        show (if g = f then some u else mA g) = none
        rw [if_neg q]; exact z
end
end L2

/-! C(a, b) and raise C(a, b), C an own exception class with an __init__. -/
namespace L2
open PySem PySem.Spec PySem.W PyProof.Rows
def dropH (H : Hp) (x : Addr) : Hp := fun b => if b = x then none else H b
theorem dropH_at {H : Hp} {x : Addr} : dropH H x x = none := by unfold dropH; rw [if_pos rfl]
theorem dropH_ne {H : Hp} {x b : Addr} (n : b ≠ x) : dropH H x b = H b := by unfold dropH; rw [if_neg n]
theorem dropH_two {H : Hp} {x D : Addr} {o u : HO} (n : H x = none) (ne : D ≠ x) : dropH (upd (upd H x o) D u) x = upd H D u := by
  funext b
  unfold dropH upd
  by_cases q : b = x
  · rw [if_pos q, q, if_neg (Ne.symm ne), n]
  · rw [if_neg q, if_neg q]
section
variable {X : Cx} {pins : List (Addr × Obj)} {σ : St} {H : Hp} {s : Shared}
/-- x is no longer tracked -/
theorem Inv.drop {x C : Addr} {d : Option Addr} (I : Inv X pins σ H s) (e : H x = some (XN x C d)) : Inv X pins σ (dropH H x) s := by
  have nx : ∀ b o, H b = some o → o ≠ XN x C d → b ≠ x := fun b o q n z => by rw [z, e] at q; exact n (Option.some.inj q).symm
  refine ⟨I.ok, I.os, I.bare, { keep := I.base.keep, slot := I.base.slot, free := fun b u q n z => ?_, there := I.base.there, tups := fun b xs q => ?_, frzs := fun b u v q => ?_, tbls := fun b ps q => ?_ }, I.loc, I.cell, ?_, fun y c q => ?_, fun p m => ?_, fun b o q => ?_, I.len⟩
  · have := I.base.free b u q n z
    unfold dropH
    split
    · rfl
    · exact this
  · have r := I.base.tups b xs q
    rw [dropH_ne (nx b _ r (by intro z; cases z))]; exact r
  · have r := I.base.frzs b u v q
    rw [dropH_ne (nx b _ r (by intro z; cases z))]; exact r
  · obtain ⟨more, r⟩ := I.base.tbls b ps q
    exact ⟨more, by rw [dropH_ne (nx b _ r (by intro z; cases z))]; exact r⟩
  · unfold dropH
    split
    · rfl
    · exact I.free
  · have := I.freeC y c q
    unfold dropH
    split
    · rfl
    · exact this
  · obtain ⟨a1, a2, a3, a4, a5⟩ := I.pin p m
    refine ⟨a1, ?_, a3, a4, a5⟩
    unfold dropH
    split
    · rfl
    · exact a2
  · have nb : b ≠ x := fun z => by rw [z, dropH_at] at q; cases q
    rw [dropH_ne nb] at q
    exact (I.hok b o q).stay (fun _ _ _ r => r) (fun c r => by rw [dropH_ne (nx c _ r (by intro z; cases z))]; exact r) fun c xs r => by rw [dropH_ne (nx c _ r (by intro z; cases z))]; exact r
theorem run_makeX {CX : CXT} {k : Nat} {f C P : Addr} {fd : FuncData} {ps : List Str} {sp : Sp} {dvs : List V} {ds : List Value} {E : XK} {Q : VK} {us : List Value} {vs : List V} (M : XMk X.K C P f) (F : FnOk X.prog X.w X.K X.mg X.base CX k f fd ps sp) (hr : Room (k + 1) X.A) (hb : Binds X.K fd ps ds) (hd : Vals dvs ds)
    (hx : Passes CX X E) (hz : ps.length ≤ sizeLine) (I : Inv X pins σ H s) (r : Vals vs us)
    (h : ∀ y, H y = none → X.s₀.heap.objs.size ≤ y → sp (.ref y :: (vs ++ dvs)) (upd H y (XN y C none)) (fun v H2 => v = .non ∧ Q (.ref y) H2) E) :
    wpAny (model X.prog X.w) X.A (call (.ref C) us) (EP X pins σ Q) X.xe s := by
  have FB := PySem.F.excBase_ValueError
  obtain ⟨nm, q, N, bs, sn, sub, ab, col, dd, k0, k1, k2, k3, k5, hC, T⟩ := M.tail I.kIn
  obtain ⟨oI, ho, hc⟩ := Option.map_eq_some_iff.mp (beq_iff_eq.mp M.fn)
  have sz := I.sz
  obtain ⟨hh, g, dr, t, os⟩ := s
  have hq := h (hh.objs.size + 1) (I.hok.fresh (Nat.le_succ _)) (Nat.le_trans sz (Nat.le_succ _))
  have I2 : Inv X pins σ (upd H (hh.objs.size + 1) (XN (hh.objs.size + 1) C none)) ⟨xNew hh C us, g, dr, t, os⟩ :=
    I.laid (a := hh.objs.size + 1) (t' := t) (fun b u q => xNew_keep q) (Nat.le_succ _) (XN.stay xNew_at rfl rfl rfl (z0 := hh.objs.size) rfl rfl)
  have r2 : Vals (V.ref (hh.objs.size + 1) :: (vs ++ dvs)) (Value.ref (hh.objs.size + 1) :: (us ++ ds)) := .cons rfl (r.append hd)
  have hl : (Value.ref (hh.objs.size + 1) :: us ++ ds).length = ps.length := by
    have e := r2.length
    rw [F.len _ _ _ _ hq] at e
    exact e.symm
  have hlen : us.length ≤ sizeLine := by
    rw [List.cons_append, List.length_cons, List.length_append] at hl
    omega
  refine xcall FB T hC (looks_findIn I.kIn M.init) (I.kIn _ _ ho) hc hlen ?_
  refine wpAny_call (codeAny_mono (F.run _ X.stack _ _ ⟨Value.ref (hh.objs.size + 1) :: us, []⟩ (Value.ref (hh.objs.size + 1) :: (us ++ ds)) _ _ E (hr.make C us []) (I2.env0.make C us []) (hb _ (Value.ref (hh.objs.size + 1) :: us) I2.kIn hl) r2 hq) fun r s' hq' => ?_)
  cases r with
  | error e => exact hx pins σ _ _ e s' I2 hq'
  | ok fl =>
    cases fl with
    | ret u =>
      obtain ⟨v, H', I3, rv, ev, q3⟩ := I2.after hq'
      subst ev
      exact ⟨rv, ⟨V.ref (hh.objs.size + 1), H', I3, rfl, q3⟩⟩
    | next => exact False.elim hq'
    | brk => exact False.elim hq'
    | cont => exact False.elim hq'
theorem pe_makeX {CX : CXT} {k : Nat} {f C P : Addr} {fd : FuncData} {ps : List Str} {sp : Sp} {dvs : List V} {ds : List Value} {E : XK} {x : Str} {p pos : Pos} {e : Expr} {es : List Expr} {t : TA} (M : XMk X.K C P f) (F : FnOk X.prog X.w X.K X.mg X.base CX k f fd ps sp) (hr : Room (k + 1) X.A) (hg : Gl X x) (hm : X.mg x = some (.ref C)) (hb : Binds X.K fd ps ds) (hd : Vals dvs ds) (hx : Passes CX X E) (hz : ps.length ≤ sizeLine)
    (ha : PA X (e :: es) t) (hdb : (x == ("__debug__" : Str)) = false := by decide) (he : starEach (e :: es) X.env = (false, eval e X.env) :: starEach es X.env := by rfl) (hpl : (backTo pos (starEach es X.env)).any (·.1) = false := by rfl) :
    PE X (.Call (.Name x p) (e :: es) [] pos) (fun σ H Q => t σ H fun vs H1 => ∀ y, H1 y = none → X.s₀.heap.objs.size ≤ y → sp (.ref y :: (vs ++ dvs)) (upd H1 y (XN y C none)) (fun v H2 => v = .non ∧ Q (.ref y) H2) E) := by
  intro pins s σ H Q I h
  refine wpAny_Call_Name_kw (ld_glob I hg hm ?_ hdb)
  refine callWith_K (h₀ := X.base) I.ok.mod.kin M.kp (thn (ha pos pins s σ H _ I h) fun us s1 ⟨vs, H1, I1, r, q⟩ => ⟨I1.kIn, ?_⟩) he hpl
  exact run_makeX M F hr hb hd hx hz I1 r q
/-- raise of an exception that has just been made -/
theorem raise_made {nm q : Str} {C N : Addr} {bs bm : List Value} {hdct : Bool} {sn : List Str} {sub : List Value} {ab : Bool} {col : Option Bool} {dd : Option Addr} {k0 k1 k2 k3 k5 : Option Value} {newId : String} {M : Model} {A : Around} {E : Value → Shared → Prop} {s : Shared} {env : Env} {v : Sem Value} {Q : Flow → Shared → Prop} (hbase : bm.contains (.type "BaseException") = true) (hh : A.handled = none)
    (h : wpAny M A v (fun u s1 => ∃ e d us z0 sl, u = .ref e ∧ s1.heap.get? C = some (excClassObj nm q C N bs bm hdct sn sub ab col dd k0 k1 k2 k3 k5 newId) ∧ s1.heap.get? e = some ⟨.ref C, d, .fields us, sl⟩ ∧ us[0]? = some z0 ∧ us[1]? = some .none ∧ E (.ref e) s1) E s) :
    wpAny M A (raiseStmt env (some v) none) Q E s := by
  have hcB : (Value.ref C :: bm).contains (.type "BaseException") = true := by rw [List.contains_cons, hbase, Bool.or_true]
  unfold raiseStmt
  refine wpAny_bind (wpAny_mono h (fun u s1 h1 => ?_) fun _ _ z => z)
  obtain ⟨e, d, us, z0, sl, rfl, hC, he, e0, en, hE⟩ := h1
  obtain ⟨hp, g, dr, tk, os⟩ := s1
  repeat (first | with_reducible refine wpAny_field he rfl en ?_ | with_reducible refine wpAny_loadPart_at he ?_ | with_reducible refine wpAny_loadPart_at hC ?_ | (with_reducible refine wpAny_isSubtype_exc hC ?_; rw [hcB]) | wp_step)
  exact wpAny_raiseNew_none hh hE
theorem ps_raiseV {E : XK} {C P f : Addr} {e : Expr} {te : TE} {pos : Pos} (D : XDef X E) (hc : X.calm = true) (M : XMk X.K C P f) (he : PE X e te) :
    PS X (.Raise (some e) none pos) (fun _ σ H => te σ H fun v H1 => ∃ y d, v = .ref y ∧ X.s₀.heap.objs.size ≤ y ∧ H1 y = some (XN y C d) ∧ E (.ref C) d (dropH H1 y)) := by
  intro pins s σ H Dn I h
  obtain ⟨nm, q, N, bs, sn, sub, ab, col, dd, k0, k1, k2, k3, k5, hC, T⟩ := M.tail I.ok.mod.kin
  rw [arm_exec_Raise]
  simp only [evalOpt, Option.map]
  refine wpAny_bind (wpAny_standAt (raise_made (C := C) (nm := nm) (q := q) (N := N) (bs := bs) (bm := .ref P :: bmVE) (hdct := true) (sn := sn) (sub := sub) (ab := ab) (col := col) (dd := dd) (k0 := k0) (k1 := k1) (k2 := k2) (k3 := k3) (k5 := k5) (newId := "ValueError.__new__") (T.hasType rfl) (I.ok.hd hc) ?_))
  refine wpAny_bind (wpAny_mono (he pins s σ H _ I h) (fun v s3 h3 => wpAny_bind (wpAny_standAt (wpAny_pure ?_))) fun _ _ z => z)
  obtain ⟨w, H1, I1, rw1, y, d, rfl, far, ey, hE⟩ := h3
  obtain rfl : v = Value.ref y := rw1
  obtain ⟨⟨⟨oc, odi, oda, osl⟩, us, z0, p1, p2, p3, p4, p5, p6⟩, _, _⟩ := I1.hok y _ ey
  dsimp only at p2 p3 p4
  subst p2 p3 p4
  exact ⟨y, odi, us, _, osl, rfl, I1.bk _ _ hC, p1, p5, p6, D.made pins σ (dropH H1 y) s3 y _ us _ (I1.drop ey) dropH_at (Heap.get?_none_of_le far) p1 rfl p6 p5 hE⟩
end
end L2

/-! x = [.. for .. in ..] where the store takes the value out of the block. -/
namespace L2
open PySem PySem.Spec PyProof.Rows
theorem ps_setCC {X : Cx} {CW : St → VK → It → Hp → Prop} {iy : Nat} {y0 : Str} {py spos : Pos} {elt iter tg : Expr} {xs : List Str} {g : TG} {pos : Pos} {ifs : List Expr} {scope : Scope} {wi : TI} {te : TE} {tt : TT} {fr : List Str} {js : List Nat}
    (hN0 : X.N.Nodup) (hi0 : X.N[iy]? = some y0) (hx0 : Loc X.env.scope y0) (hc : X.calm = true) (hi : PI X tg iter wi)
    (hcell : ∀ y ∈ scope.names, y.2 ≠ .cell) (hkind : scope.kind = .function) (hnames : ∀ y ∈ scope.names, y.2 = .local → scope.names.lookup y.1 = some .local)
    (hfr : ∀ y ∈ scope.names, y.2 = .free → X.env.scope.names.lookup y.1 = some .cell) (hjs : js.map (fun j => X.N[j]?) = fr.map some) (hfv : ∀ y ∈ fr, scope.names.lookup y = some .free)
    (hg : ∀ cl C s' H' ex, PG (cxComp X scope cl C (xs ++ fr) s' H' ex) tg g)
    (hb : ∀ cl C s' H' ex, PE (cxComp X scope cl C (xs ++ fr) s' H' ex) elt te ∧ PTs (cxComp X scope cl C (xs ++ fr) s' H' ex) ifs tt)
    (hCW : ∀ σ Q J H1, CW σ Q J H1 → CompWT xs.length g js tt te σ Q J H1) (hs : ∀ z, foldedSetIterable iter X.env z = pure z := by intro _; rfl) (hsw : swapsWith (.ListComp elt [⟨tg, iter, ifs, 0⟩] scope pos) (some (.Name y0 py)) spos.line X.env = pure true := by rfl)
    (hf0 : X.fn y0 = true ∨ X.env.scope.names.lookup y0 = some .local := by first | exact .inl rfl | exact .inr rfl | assumption) :
    PS X (.Assign [.Name y0 py] (.ListComp elt [⟨tg, iter, ifs, 0⟩] scope pos) spos) (tAsg (fun σ H Q => wi σ H fun J H1 => CW σ Q J H1) (gName iy)) := by
  intro pins s σ H Dn I h
  rw [exec_Assign_Name_used _ _ _ _ hsw]
  refine wpAny_bind (wpAny_standAt (wpAny_bind ?_))
  show wpAny _ X.A (do let _ ← comprehension (.ListComp elt [⟨tg, iter, ifs, 0⟩] scope pos) scope X.env _ (newList []) false (eval iter X.env) (some (assign (.Name y0 py) X.env))) _ _ s
  refine wpAny_bind (wpAny_mono (comp_core (use := some (assign (.Name y0 py) X.env)) (R := fun _ s' => SP X pins Dn .next s') hc hi hcell hkind hnames hfr hjs hfv hg hb hCW I h (fun s4 H5 D C mC hnC I5 nC locC fsC pinX cC sC q => ?_) hs) (fun _ s' hq => wpAny_pure (wpAny_pure hq)) fun _ _ e => e)
  obtain ⟨oC, esC, epC, hoC, rC⟩ := id hnC
  have I6 : Inv X ((C, oC) :: pins) σ H5 s4 := I5.pins_of fun p hp => by
    rcases List.mem_cons.mp hp with rfl | hp
    · refine ⟨hoC, nC, locC, fsC, fun v z => ?_⟩
      rw [rC.1] at z
      cases z
    · exact I5.pin p (List.mem_append_right _ hp)
  have hPG0 : PG X (.Name y0 py) (gName iy) := pg_name hN0 hi0 hx0 hf0
  refine thn (hPG0 _ s4 σ _ (.ref D) (.ref D) (fun σ' H' => Dn.nx σ' H' ∧ H' C = none) I6 rfl ⟨q, nC⟩) fun _ s6 hz0 => ?_
  obtain ⟨σ6, H6, I7, q7, n7⟩ := hz0
  have o7 := (I7.pin (C, oC) (List.mem_append_right _ (List.mem_cons_self ..))).1
  refine ⟨mC, ⟨oC, esC, epC, o7, rC⟩, fun h' hsb => ⟨σ6, H6, ?_, q7⟩⟩
  have I8 : Inv X pins σ6 H6 s6 := I7.pins_of fun p hp => I7.pin p (List.mem_append_right _ (List.mem_cons_of_mem _ hp))
  exact I8.turned (t' := s6.toks) (it := C) (fun b o hb' e => hsb.extBut b o hb' e) n7 locC (.inr sC) cC pinX
theorem ps_setC {X : Cx} {iy : Nat} {y0 : Str} {py spos : Pos} {elt iter : Expr} {x : Str} {px pos : Pos} {ifs : List Expr} {scope : Scope} {wi : TI} {te : TE} {tt : TT} {fr : List Str} {js : List Nat}
    (hN0 : X.N.Nodup) (hi0 : X.N[iy]? = some y0) (hx0 : Loc X.env.scope y0) (hc : X.calm = true) (hi : PI X (.Name x px) iter wi)
    (hcell : ∀ y ∈ scope.names, y.2 ≠ .cell) (hkind : scope.kind = .function) (hnames : ∀ y ∈ scope.names, y.2 = .local → scope.names.lookup y.1 = some .local) (hx : scope.names.lookup x = some .local)
    (hfr : ∀ y ∈ scope.names, y.2 = .free → X.env.scope.names.lookup y.1 = some .cell) (hnd : (x :: fr).Nodup) (hjs : js.map (fun j => X.N[j]?) = fr.map some) (hfv : ∀ y ∈ fr, scope.names.lookup y = some .free)
    (hb : ∀ cl C s' H' ex, PE (cxComp X scope cl C (x :: fr) s' H' ex) elt te ∧ PTs (cxComp X scope cl C (x :: fr) s' H' ex) ifs tt)
    (hs : ∀ z, foldedSetIterable iter X.env z = pure z := by intro _; rfl) (hsw : swapsWith (.ListComp elt [⟨.Name x px, iter, ifs, 0⟩] scope pos) (some (.Name y0 py)) spos.line X.env = pure true := by rfl)
    (hf0 : X.fn y0 = true ∨ X.env.scope.names.lookup y0 = some .local := by first | exact .inl rfl | exact .inr rfl | assumption) :
    PS X (.Assign [.Name y0 py] (.ListComp elt [⟨.Name x px, iter, ifs, 0⟩] scope pos) spos) (tAsg (tComp wi js tt te) (gName iy)) :=
  ps_setCC (xs := [x]) (g := gName 0) hN0 hi0 hx0 hc hi hcell hkind hnames hfr hjs hfv (fun _ _ _ _ _ => pg_name hnd rfl (.inl (lookup_relabel_local hx)) (.inr (lookup_relabel_local hx))) hb (fun _ _ _ _ h => compW_T h) hs hsw hf0
/-- an item that is not starred; the rest is not looked at -/
def notStar : Expr → Bool
  | .Starred _ _ => false
  | _ => true
theorem starEach_not {e : Expr} {es : List Expr} {env : Env} (h : notStar e = true) : starEach (e :: es) env = (false, eval e env) :: starEach es env := by
  cases e <;> first | rfl | cases h
theorem pa_k {X : Cx} {e : Expr} {es : List Expr} {te : TE} {t : TA} (ha : PE X e te) (hr : PA X es t) (h : notStar e = true := by rfl) : PA X (e :: es) (tCons te t) := pa_cons ha hr (starEach_not h)
end L2

/-! The judgements as structures: what stands in them is not looked into (lists of many constants). -/
namespace L2
open PySem PySem.Spec PyProof.Rows
structure PEs (X : Cx) (e : Expr) (t : TE) : Prop where
  h : PE X e t
structure PAs (X : Cx) (es : List Expr) (t : TA) : Prop where
  h : PA X es t
structure PSt (X : Cx) (st : Stmt) (t : TS) : Prop where
  h : PS X st t
theorem ps_cutK {X : Cx} {st : Stmt} {t : TS} (h : PS X st t) : PS X st (fun D σ H => ∃ N : St → Hp → Prop, (∀ σ' H', N σ' H' → D.nx σ' H') ∧ t { D with nx := N } σ H) := by
  intro pins s σ H D I ⟨N, hN, ht⟩
  refine thn (h pins s σ H { D with nx := N } I ht) fun f s' q => ?_
  cases f with
  | next => obtain ⟨σ', H', I', n'⟩ := q; exact ⟨σ', H', I', hN _ _ n'⟩
  | brk => exact q
  | cont => exact q
  | ret u => exact q
structure PSl (X : Cx) (sts : List Stmt) (t : TS) : Prop where
  h : PSs X sts t
section
variable {X : Cx} {a b e : Expr} {es : List Expr} {ta tb te : TE} {t : TA} {pos : Pos}
theorem k_int {i j} : PEs X (.Constant (.int i) j pos) (tC (.int i)) := ⟨pe_int⟩
theorem k_op {op : Operator} {r : R2} (ho : OpR X (binaryOp op) r) (ha : PEs X a ta) (hb : PEs X b tb) : PEs X (.BinOp a op b pos) (tOp r ta tb) := ⟨pe_op ho ha.h hb.h⟩
theorem k_ix {r : R2} (hr : IxR X r) (ha : PEs X a ta) (hb : PEs X b tb) (hs : PlainIx b) : PEs X (.Subscript a b pos) (tOp r ta tb) := ⟨pe_ix hr ha.h hb.h hs⟩
theorem k_lst (h : PAs X es t) : PEs X (.List es pos) (tLstA t) := ⟨pe_lstA h.h⟩
theorem a_nil : PAs X [] tNil := ⟨pa_nil⟩
theorem a_cons (ha : PEs X e te) (hr : PAs X es t) (h : notStar e = true := by rfl) : PAs X (e :: es) (tCons te t) := ⟨pa_k ha.h hr.h h⟩
theorem l_cons {st : Stmt} {sts : List Stmt} {t u : TS} (a : PSt X st t) (b : PSl X sts u) : PSl X (st :: sts) (tSeq t u) := ⟨pss_cons a.h b.h⟩
theorem l_one {st : Stmt} {t : TS} (a : PSt X st t) : PSl X [st] t := ⟨pss_one a.h⟩
end
end L2

/-! products of great numbers; tuples told unlike; lists of whole numbers told alike or unlike. -/
namespace L2
open PySem PySem.Spec PyProof.Rows
section
variable {X : Cx}
def CBig (i j : Int) : Prop := i.natAbs < 10 ^ 400 ∧ j.natAbs < 10 ^ 400
theorem bits_of {x : Int} (h : x.natAbs < 10 ^ 400) : Builtin.Int.intBits x ≤ 2 ^ 20 := by
  unfold Builtin.Int.intBits
  split
  · exact Nat.zero_le _
  · rename_i hx
    have h0 : x.natAbs ≠ 0 := fun z => hx (by have : x = 0 := by omega
                                              rw [this]; rfl)
    have h1 : x.natAbs < 2 ^ 4000 := Nat.lt_trans h (by decide +kernel)
    have h2 := (Nat.log2_lt h0).mpr h1
    have h3 : (4000 : Nat) + 1 ≤ 2 ^ 20 := by decide
    omega
theorem op_mulB : OpR X (binaryOp .Mult) (rI CBig fun i j => .int (i * j)) := opI fun _ _ _ _ _ _ _ hc q => mul_int q (IntMulOk.of_bits (bits_of hc.1) (bits_of hc.2))
theorem pls_ints : ∀ ns : List Int, pls (ns.map Dt.int) = true
  | [] => by unfold pls; rfl
  | n :: r => by rw [List.map_cons]; unfold pls; rw [pls_ints r]; unfold pl; rfl
theorem deps_ints : ∀ ns : List Int, deps (ns.map Dt.int) = 0
  | [] => by unfold deps; rfl
  | n :: r => by rw [List.map_cons]; unfold deps; rw [deps_ints r]; unfold dep; rfl
end
end L2

/-! comprehensions with any targets: over pairs that an iterator makes. -/
namespace L2
open PySem PySem.Spec PyProof.Rows
theorem pe_compT {X : Cx} {elt iter tg : Expr} {xs : List Str} {g : TG} {pos : Pos} {ifs : List Expr} {scope : Scope} {wi : TI} {te : TE} {tt : TT} {fr : List Str} {js : List Nat}
    (hc : X.calm = true) (hi : PI X tg iter wi)
    (hcell : ∀ y ∈ scope.names, y.2 ≠ .cell) (hkind : scope.kind = .function) (hnames : ∀ y ∈ scope.names, y.2 = .local → scope.names.lookup y.1 = some .local)
    (hfr : ∀ y ∈ scope.names, y.2 = .free → X.env.scope.names.lookup y.1 = some .cell) (hjs : js.map (fun j => X.N[j]?) = fr.map some) (hfv : ∀ y ∈ fr, scope.names.lookup y = some .free)
    (hg : ∀ cl C s' H' ex, PG (cxComp X scope cl C (xs ++ fr) s' H' ex) tg g)
    (hb : ∀ cl C s' H' ex, PE (cxComp X scope cl C (xs ++ fr) s' H' ex) elt te ∧ PTs (cxComp X scope cl C (xs ++ fr) s' H' ex) ifs tt)
    (hs : ∀ z, foldedSetIterable iter X.env z = pure z := by intro _; rfl) :
    PE X (.ListComp elt [⟨tg, iter, ifs, 0⟩] scope pos) (tCompT wi xs.length g js tt te) :=
  pe_compC hc hi hcell hkind hnames hfr hjs hfv hg hb (fun _ _ _ _ h => h) hs
abbrev gPair (K : PySem.W.Frag) : TG := gTup K 2 (gCons (gName 0) (gCons (gName 1) gNil))
theorem pg_two {X : Cx} {scope : Scope} {cl : List (Str × Addr)} {C : Addr} {s : Shared} {H : Hp} {ex : List Addr} {x y : Str} {fr : List Str} {k : Nat} {p1 p2 pt : Pos} (hc : X.calm = true) (hnd : (x :: y :: fr).Nodup) (hx : scope.names.lookup x = some .local) (hy : scope.names.lookup y = some .local) :
    PG (cxComp X scope cl C ([x, y] ++ fr) s H ex) (.Tuple [.Name x p1, .Name y p2] k pt) (gPair X.K) :=
  pg_tup hc (pgs_cons (pg_name (i := 0) hnd rfl (.inl (lookup_relabel_local hx)) (.inr (lookup_relabel_local hx))) (pgs_cons (pg_name (i := 1) hnd rfl (.inl (lookup_relabel_local hy)) (.inr (lookup_relabel_local hy))) pgs_nil))
end L2

/-! zip(t, u) of two tuples. -/
namespace L2
open PySem PySem.Spec PyProof.Rows
theorem istup_push {h : Heap} {b : Addr} {ys : Array Value} (k : h.IsTuple b ys) (o : Obj) : (h.push o).IsTuple b ys := by
  obtain ⟨ob, e, r⟩ := k
  exact ⟨ob, Heap.get?_push_of_some _ e, r⟩
theorem istup_at {h : Heap} {b : Addr} {ys : Array Value} (k : IsTup h b ys) : h.IsTuple b ys := k
section
variable {prog : Program} {w : World} {A : Around} {E : Value → Shared → Prop} {s : Shared}
theorem zipTT_item {z TI TO i1 i2 a b : Addr} {k1 k2 : Nat} {xs ys : Array Value} {x y c d : Value} {Q : Option Value → Shared → Prop} (D : ZAp z TI TO i1 i2 a b)
    (hz : IsZip s.heap z TI TO .none) (ti : IsPair s.heap TI (.ref i1) (.ref i2)) (to : IsPair s.heap TO c d)
    (j1 : s.heap.IsTupleIter i1 a k1) (j2 : s.heap.IsTupleIter i2 b k2) (la : s.heap.IsTuple a xs) (lb : s.heap.IsTuple b ys) (hx : xs[k1]? = some x) (hy : ys[k2]? = some y)
    (q : ∀ g, IsZip g z TI TO (rawInt s.heap.objs.size) → IsPair g TO x y → g.IsTupleIter i1 a (k1 + 1) → g.IsTupleIter i2 b (k2 + 1) → IsPair g s.heap.objs.size x y → g.objs.size = s.heap.objs.size + 1 →
      (∀ e o, e ≠ z → e ≠ TO → e ≠ i1 → e ≠ i2 → s.heap.get? e = some o → g.get? e = some o) → Q (some (.ref s.heap.objs.size)) { s with heap := g }) : wpAny (model prog w) A (pyNext (.ref z)) Q E s := by
  have hT : s.TypeIs (.ref z) "zip" := ⟨_, hz, rfl⟩
  unfold pyNext
  refine wpAny_bind (wpAny_attempt (wpAny_callSpecial?_slot (name := Str.ofString "__next__") hT F.slot_zip_next (wpAny_call_entry F.slot_zip_next hT F.entry_zip_next ?_ (F.args_zip_next_1 _))))
  show wpAny _ _ (field (.ref z) 2 >>= _) _ _ s
  refine wpAny_bind (wpAny_field hz rfl (x := .bool false) (by rfl) ?_)
  show wpAny _ _ (field (.ref z) 3 >>= _) _ _ s
  refine wpAny_bind (wpAny_field hz rfl (x := .ref TI) (by rfl) ?_)
  refine wpAny_bind (wpAny_seqItems ti rfl ?_)
  show wpAny _ _ (Builtin.SmallTypes.ownedTupleIsFree (.ref z) >>= _) _ _ s
  refine wpAny_bind ?_
  unfold Builtin.SmallTypes.ownedTupleIsFree
  refine wpAny_bind (wpAny_field hz rfl (x := .none) (by rfl) (wpAny_pure ?_))
  simp only [if_true]
  refine wpAny_bind (wpAny_rule ?_)
  refine wpAny_bind (wpAny_field hz rfl (x := .ref TO) (by rfl) ?_)
  refine wpAny_bind (wpAny_setField_rec hz (by simp) fun g1 z1 s1 => ?_)
  have z1 : IsZip g1 z TI TO .ellipsis := z1
  refine wpAny_bind ?_
  simp only [List.zipIdx_cons, List.zipIdx_nil, List.forIn_cons, List.forIn_nil]
  refine wpAny_bind (wpAny_bind (wpAny_onRaise ?_))
  show wpAny _ _ (Builtin.SmallTypes.nextOf (.ref i1) >>= _) _ _ _
  refine wpAny_bind (nextT_item (j1.extBut s1.extBut D.p3) (la.extBut s1.extBut D.a1) hx fun g2 n2 s2 => wpAny_pure ?_)
  have o2 : IsPair g2 TO c d := s2.extBut _ _ D.p8 (s1.extBut _ _ D.p2 to)
  refine wpAny_bind (wpAny_seqItems o2 rfl ?_)
  refine wpAny_bind (wpAny_updateSeq_pair o2 fun g3 o3 s3 => ?_)
  have o3 : IsPair g3 TO x d := o3
  refine wpAny_bind (wpAny_letGo (wpAny_pure ?_))
  refine wpAny_bind (wpAny_bind (wpAny_onRaise ?_))
  show wpAny _ _ (Builtin.SmallTypes.nextOf (.ref i2) >>= _) _ _ _
  refine wpAny_bind (nextT_item (((j2.extBut s1.extBut D.p4).extBut s2.extBut D.p10.symm).extBut s3.extBut D.p9.symm)
    (((lb.extBut s1.extBut D.b1).extBut s2.extBut D.b3).extBut s3.extBut D.b2) hy fun g4 n4 s4 => wpAny_pure ?_)
  have o4 : IsPair g4 TO x d := s4.extBut _ _ D.p9 o3
  refine wpAny_bind (wpAny_seqItems o4 rfl ?_)
  refine wpAny_bind (wpAny_updateSeq_pair o4 fun g5 o5 s5 => ?_)
  have o5 : IsPair g5 TO x y := o5
  refine wpAny_bind (wpAny_letGo (wpAny_pure (wpAny_pure ?_)))
  refine wpAny_bind (wpAny_seqItems o5 rfl ?_)
  refine wpAny_bind (wpAny_newTuple ?_)
  have sz : g5.objs.size = s.heap.objs.size := by rw [s5.1, s4.1, s3.1, s2.1, s1.1]
  have z5 : IsZip g5 z TI TO .ellipsis := s5.extBut _ _ D.p2.symm (s4.extBut _ _ D.p4.symm (s3.extBut _ _ D.p2.symm (s2.extBut _ _ D.p3.symm z1)))
  have k5 : ∀ e o, e ≠ z → e ≠ TO → e ≠ i1 → e ≠ i2 → s.heap.get? e = some o → g5.get? e = some o := fun e o c1 c2 c3 c4 h =>
    s5.extBut _ _ c2 (s4.extBut _ _ c4 (s3.extBut _ _ c2 (s2.extBut _ _ c3 (s1.extBut _ _ c1 h))))
  have m1 : g5.IsTupleIter i1 a (k1 + 1) := ((n2.extBut s3.extBut D.p8.symm).extBut s4.extBut D.p10).extBut s5.extBut D.p8.symm
  have m2 : g5.IsTupleIter i2 b (k2 + 1) := n4.extBut s5.extBut D.p9.symm
  have zlt : z < g5.objs.size := Heap.lt_size z5
  show wpAny _ _ (Builtin.SmallTypes.ownedTupleHandOut (.ref z) (.ref g5.objs.size) >>= _) _ _ _
  refine wpAny_bind ?_
  unfold Builtin.SmallTypes.ownedTupleHandOut
  have z6 : IsZip (g5.push { cls := .type "tuple", data := .seq #[x, y] }) z TI TO .ellipsis := Heap.get?_push_of_some _ z5
  refine wpAny_bind (wpAny_setField_rec z6 (by simp) fun g7 z7 s7 => ?_)
  have z7 : IsZip g7 z TI TO (rawInt g5.objs.size) := z7
  refine wpAny_setField_rec z7 (by simp) fun g8 z8 s8 => ?_
  have z8 : IsZip g8 z TI TO (rawInt g5.objs.size) := z8
  have up : ∀ e o, e ≠ z → g5.get? e = some o → g8.get? e = some o := fun e o c1 h => s8.extBut _ _ c1 (s7.extBut _ _ c1 (Heap.get?_push_of_some _ h))
  have t8 : IsPair g8 g5.objs.size x y := s8.extBut _ _ (Nat.ne_of_gt zlt) (s7.extBut _ _ (Nat.ne_of_gt zlt) (Heap.get?_push_size _ rfl))
  have sz8 : g8.objs.size = g5.objs.size + 1 := by rw [s8.1, s7.1, Heap.size_push]
  rw [sz] at z8 t8 sz8
  refine wpAny_pure ⟨_, rfl, ?_⟩
  refine wpAny_pure ?_
  show Q (some (.ref g5.objs.size)) _
  rw [sz]
  exact q g8 z8 (up _ _ D.p2 o5) (by obtain ⟨o, e, r⟩ := m1; exact ⟨o, up _ o D.p3 e, r⟩) (by obtain ⟨o, e, r⟩ := m2; exact ⟨o, up _ o D.p4 e, r⟩) t8 sz8 fun e o c1 c2 c3 c4 h => up e o c1 (k5 e o c1 c2 c3 c4 h)

theorem zipTT_end {z TI TO i1 i2 a b : Addr} {k1 k2 : Nat} {xs ys : Array Value} {c d : Value} {Q : Option Value → Shared → Prop} (hh : A.handled = none) (D : ZAp z TI TO i1 i2 a b)
    (hz : IsZip s.heap z TI TO .none) (ti : IsPair s.heap TI (.ref i1) (.ref i2)) (to : IsPair s.heap TO c d)
    (j1 : s.heap.IsTupleIter i1 a k1) (j2 : s.heap.IsTupleIter i2 b k2) (la : s.heap.IsTuple a xs) (lb : s.heap.IsTuple b ys) (hx : xs[k1]? = none)
    (q : ∀ g, (∀ e o, e ≠ z → e ≠ TO → e ≠ i1 → e ≠ i2 → s.heap.get? e = some o → g.get? e = some o) → Q none { s with heap := g }) : wpAny (model prog w) A (pyNext (.ref z)) Q E s := by
  have hT : s.TypeIs (.ref z) "zip" := ⟨_, hz, rfl⟩
  have fin : ∀ g x, (∀ e o, e ≠ z → e ≠ TO → e ≠ i1 → e ≠ i2 → s.heap.get? e = some o → g.get? e = some o) → (∃ o, g.get? x = some o ∧ o.cls = .type "StopIteration") →
      wpAny (model prog w) A (do if ← isInstance (.ref x) (.type "StopIteration") then pure none else throw (.ref x)) Q E { s with heap := g } := fun g x k ⟨o, ho, hc⟩ => by
    refine wpAny_bind (wpAny_isInstance (T := "StopIteration") (b := true) ⟨o, ho, hc⟩ isSubtype_stop ?_)
    exact wpAny_pure (q g k)
  unfold pyNext
  refine wpAny_bind (wpAny_attempt (wpAny_callSpecial?_slot (name := Str.ofString "__next__") hT F.slot_zip_next (wpAny_call_entry F.slot_zip_next hT F.entry_zip_next ?_ (F.args_zip_next_1 _))))
  show wpAny _ _ (field (.ref z) 2 >>= _) _ _ s
  refine wpAny_bind (wpAny_field hz rfl (x := .bool false) (by rfl) ?_)
  show wpAny _ _ (field (.ref z) 3 >>= _) _ _ s
  refine wpAny_bind (wpAny_field hz rfl (x := .ref TI) (by rfl) ?_)
  refine wpAny_bind (wpAny_seqItems ti rfl ?_)
  show wpAny _ _ (Builtin.SmallTypes.ownedTupleIsFree (.ref z) >>= _) _ _ s
  refine wpAny_bind ?_
  unfold Builtin.SmallTypes.ownedTupleIsFree
  refine wpAny_bind (wpAny_field hz rfl (x := .none) (by rfl) (wpAny_pure ?_))
  simp only [if_true]
  refine wpAny_bind (wpAny_rule ?_)
  refine wpAny_bind (wpAny_field hz rfl (x := .ref TO) (by rfl) ?_)
  refine wpAny_bind (wpAny_setField_rec hz (by simp) fun g1 z1 s1 => ?_)
  have z1 : IsZip g1 z TI TO .ellipsis := z1
  refine wpAny_bind ?_
  simp only [List.zipIdx_cons, List.zipIdx_nil, List.forIn_cons, List.forIn_nil]
  refine wpAny_bind (wpAny_bind (wpAny_onRaise ?_))
  show wpAny _ _ (Builtin.SmallTypes.nextOf (.ref i1) >>= _) _ _ _
  refine wpAny_bind (nextT_end hh (j1.extBut s1.extBut D.p3) (la.extBut s1.extBut D.a1) hx fun g2 x s2 hx2 => ?_)
  obtain ⟨oe, e1, e2⟩ := hx2
  have z2 : IsZip g2 z TI TO .ellipsis := s2 _ _ D.p3.symm z1
  have xz : x ≠ z := fun r => by subst r; rw [z2] at e1; cases e1; simp at e2
  exact wpAny_setField_rec z2 (by simp) fun g3 _ s3 => fin g3 x (fun e o c1 _ c3 _ h => s3.extBut _ _ c1 (s2 _ _ c3 (s1.extBut _ _ c1 h))) ⟨oe, s3.extBut _ _ xz e1, e2⟩
theorem zipTT_end2 {z TI TO i1 i2 a b : Addr} {k1 k2 : Nat} {xs ys : Array Value} {x0 c d : Value} {Q : Option Value → Shared → Prop} (hh : A.handled = none) (D : ZAp z TI TO i1 i2 a b)
    (hz : IsZip s.heap z TI TO .none) (ti : IsPair s.heap TI (.ref i1) (.ref i2)) (to : IsPair s.heap TO c d)
    (j1 : s.heap.IsTupleIter i1 a k1) (j2 : s.heap.IsTupleIter i2 b k2) (la : s.heap.IsTuple a xs) (lb : s.heap.IsTuple b ys) (hx : xs[k1]? = some x0) (hy : ys[k2]? = none)
    (q : ∀ g, (∀ e o, e ≠ z → e ≠ TO → e ≠ i1 → e ≠ i2 → s.heap.get? e = some o → g.get? e = some o) → Q none { s with heap := g }) : wpAny (model prog w) A (pyNext (.ref z)) Q E s := by
  have hT : s.TypeIs (.ref z) "zip" := ⟨_, hz, rfl⟩
  have fin : ∀ g x, (∀ e o, e ≠ z → e ≠ TO → e ≠ i1 → e ≠ i2 → s.heap.get? e = some o → g.get? e = some o) → (∃ o, g.get? x = some o ∧ o.cls = .type "StopIteration") →
      wpAny (model prog w) A (do if ← isInstance (.ref x) (.type "StopIteration") then pure none else throw (.ref x)) Q E { s with heap := g } := fun g x k ⟨o, ho, hc⟩ => by
    refine wpAny_bind (wpAny_isInstance (T := "StopIteration") (b := true) ⟨o, ho, hc⟩ isSubtype_stop ?_)
    exact wpAny_pure (q g k)
  unfold pyNext
  refine wpAny_bind (wpAny_attempt (wpAny_callSpecial?_slot (name := Str.ofString "__next__") hT F.slot_zip_next (wpAny_call_entry F.slot_zip_next hT F.entry_zip_next ?_ (F.args_zip_next_1 _))))
  show wpAny _ _ (field (.ref z) 2 >>= _) _ _ s
  refine wpAny_bind (wpAny_field hz rfl (x := .bool false) (by rfl) ?_)
  show wpAny _ _ (field (.ref z) 3 >>= _) _ _ s
  refine wpAny_bind (wpAny_field hz rfl (x := .ref TI) (by rfl) ?_)
  refine wpAny_bind (wpAny_seqItems ti rfl ?_)
  show wpAny _ _ (Builtin.SmallTypes.ownedTupleIsFree (.ref z) >>= _) _ _ s
  refine wpAny_bind ?_
  unfold Builtin.SmallTypes.ownedTupleIsFree
  refine wpAny_bind (wpAny_field hz rfl (x := .none) (by rfl) (wpAny_pure ?_))
  simp only [if_true]
  refine wpAny_bind (wpAny_rule ?_)
  refine wpAny_bind (wpAny_field hz rfl (x := .ref TO) (by rfl) ?_)
  refine wpAny_bind (wpAny_setField_rec hz (by simp) fun g1 z1 s1 => ?_)
  have z1 : IsZip g1 z TI TO .ellipsis := z1
  refine wpAny_bind ?_
  simp only [List.zipIdx_cons, List.zipIdx_nil, List.forIn_cons, List.forIn_nil]
  refine wpAny_bind (wpAny_bind (wpAny_onRaise ?_))
  show wpAny _ _ (Builtin.SmallTypes.nextOf (.ref i1) >>= _) _ _ _
  refine wpAny_bind (nextT_item (j1.extBut s1.extBut D.p3) (la.extBut s1.extBut D.a1) hx fun g2 n2 s2 => wpAny_pure ?_)
  have o2 : IsPair g2 TO c d := s2.extBut _ _ D.p8 (s1.extBut _ _ D.p2 to)
  refine wpAny_bind (wpAny_seqItems o2 rfl ?_)
  refine wpAny_bind (wpAny_updateSeq_pair o2 fun g3 o3 s3 => ?_)
  refine wpAny_bind (wpAny_letGo (wpAny_pure ?_))
  refine wpAny_bind (wpAny_bind (wpAny_onRaise ?_))
  show wpAny _ _ (Builtin.SmallTypes.nextOf (.ref i2) >>= _) _ _ _
  refine wpAny_bind (nextT_end hh (((j2.extBut s1.extBut D.p4).extBut s2.extBut D.p10.symm).extBut s3.extBut D.p9.symm)
    (((lb.extBut s1.extBut D.b1).extBut s2.extBut D.b3).extBut s3.extBut D.b2) hy fun g4 x s4 hx4 => ?_)
  obtain ⟨oe, e1, e2⟩ := hx4
  have z4 : IsZip g4 z TI TO .ellipsis := s4 _ _ D.p4.symm (s3.extBut _ _ D.p2.symm (s2.extBut _ _ D.p3.symm z1))
  have xz : x ≠ z := fun r => by subst r; rw [z4] at e1; cases e1; simp at e2
  exact wpAny_setField_rec z4 (by simp) fun g5 _ s5 => fin g5 x (fun e o c1 c2 c3 c4 h => s5.extBut _ _ c1 (s4 _ _ c4 (s3.extBut _ _ c2 (s2.extBut _ _ c3 (s1.extBut _ _ c1 h))))) ⟨oe, s5.extBut _ _ xz e1, e2⟩
end
abbrev yT1 (h : Heap) (a : Addr) : Heap := h.push { cls := .type "tuple_iterator", data := .fields #[.ref a, .int 0 0] }
abbrev yT2 (h : Heap) (a b : Addr) : Heap := (yT1 h a).push { cls := .type "tuple_iterator", data := .fields #[.ref b, .int 0 0] }
abbrev yT3 (h : Heap) (a b : Addr) : Heap := (yT2 h a b).push { cls := .type "tuple", data := .seq #[.ref h.objs.size, .ref (yT1 h a).objs.size] }
abbrev yT4 (h : Heap) (a b : Addr) : Heap := (yT3 h a b).push { cls := .type "tuple", data := .seq #[.none, .none] }
abbrev yT5 (h : Heap) (a b : Addr) : Heap := (yT4 h a b).push { cls := .type "zip", data := .fields #[.none, .bool false, .bool false, .ref (yT2 h a b).objs.size, .ref (yT3 h a b).objs.size] }
theorem zipTT_new (a b : Addr) (xs ys : Array Value) :
    Meets (Builtin.«zip.__new__» ⟨[.type "zip", .ref a, .ref b], []⟩) (fun _ R s => s.heap.IsTuple a xs ∧ s.heap.IsTuple b ys ∧ R (.ok (.ret (.ref (yT4 s.heap a b).objs.size))) { s with heap := yT5 s.heap a b }) :=
  .of_wp fun prog w A R s h => by
    obtain ⟨hp, g, d, tk, os⟩ := s
    obtain ⟨h1, h2, h⟩ := h
    have subZ := sub_zip
    have k1 : Heap.IsTuple (Shared.heap ⟨hp, g, d, tk, os⟩) a xs := h1
    have k2 : Heap.IsTuple (Shared.heap ⟨hp.push { cls := .type "tuple_iterator", data := .fields #[.ref a, .int 0 0] }, g, d, tk, os⟩) b ys := istup_push h2 _
    wp_walk using wpAny_pyIter_tuple k1, wpAny_pyIter_tuple k2
    exact ⟨_, rfl, h⟩
theorem call_zipTT {prog : Program} {w : World} {A : Around} {E : Value → Shared → Prop} {s : Shared} {a b : Addr} {xs ys : Array Value} {Q : Value → Shared → Prop} (h1 : s.heap.IsTuple a xs) (h2 : s.heap.IsTuple b ys)
    (q : ∀ g, IsZip g (s.heap.objs.size + 4) (s.heap.objs.size + 2) (s.heap.objs.size + 3) .none → IsPair g (s.heap.objs.size + 2) (.ref s.heap.objs.size) (.ref (s.heap.objs.size + 1)) →
      IsPair g (s.heap.objs.size + 3) .none .none → g.IsTupleIter s.heap.objs.size a 0 → g.IsTupleIter (s.heap.objs.size + 1) b 0 → g.objs.size = s.heap.objs.size + 5 →
      (∀ c o, s.heap.get? c = some o → g.get? c = some o) → Q (.ref (s.heap.objs.size + 4)) { s with heap := g }) : wpAny (model prog w) A (call (.type "zip") [.ref a, .ref b]) Q E s := by
  refine callType_new F.called_zip (by decide) (F.typeCall_zip_2 _ _) (F.newCall_zip_2 _ _) (fun obj => F.args_object_init_3 obj _ _) F.entry_zip_new (zipTT_new a b xs ys) ⟨h1, h2, ?_⟩
  have e1 : (yT1 s.heap a).objs.size = s.heap.objs.size + 1 := Heap.size_push ..
  have e2 : (yT2 s.heap a b).objs.size = s.heap.objs.size + 2 := by rw [Heap.size_push, e1]
  have e3 : (yT3 s.heap a b).objs.size = s.heap.objs.size + 3 := by rw [Heap.size_push, e2]
  have e4 : (yT4 s.heap a b).objs.size = s.heap.objs.size + 4 := by rw [Heap.size_push, e3]
  have e5 : (yT5 s.heap a b).objs.size = s.heap.objs.size + 5 := by rw [Heap.size_push, e4]
  have f5 : (yT5 s.heap a b).get? (yT4 s.heap a b).objs.size = some _ := Heap.get?_push_size _ rfl
  have f4 : (yT5 s.heap a b).get? (yT3 s.heap a b).objs.size = some _ := Heap.get?_push_of_some _ (Heap.get?_push_size _ rfl)
  have f3 : (yT5 s.heap a b).get? (yT2 s.heap a b).objs.size = some _ := Heap.get?_push_of_some _ (Heap.get?_push_of_some _ (Heap.get?_push_size _ rfl))
  have f2 : (yT5 s.heap a b).get? (yT1 s.heap a).objs.size = some _ := Heap.get?_push_of_some _ (Heap.get?_push_of_some _ (Heap.get?_push_of_some _ (Heap.get?_push_size _ rfl)))
  have f1 : (yT5 s.heap a b).get? s.heap.objs.size = some _ := Heap.get?_push_of_some _ (Heap.get?_push_of_some _ (Heap.get?_push_of_some _ (Heap.get?_push_of_some _ (Heap.get?_push_size _ rfl))))
  show _ ∧ _
  rw [e2, e3, e4] at f5
  rw [e1, e2] at f3
  rw [e3] at f4
  rw [e1] at f2
  rw [e4]
  exact ⟨⟨_, f5, rfl⟩, q _ f5 f3 f4 ⟨_, f1, rfl, rfl⟩ ⟨_, f2, rfl, rfl⟩ e5 fun c o x => Heap.get?_push_of_some _ (Heap.get?_push_of_some _ (Heap.get?_push_of_some _ (Heap.get?_push_of_some _ (Heap.get?_push_of_some _ x))))⟩

section
variable {X : Cx}
def Ity (a b : Addr) : It :=
  ⟨fun i H => ∃ xs ys x y, H a = some (.tup xs) ∧ H b = some (.tup ys) ∧ xs[i]? = some x ∧ ys[i]? = some y,
   fun i H v H' => ∃ p x y, H p = none ∧ v = .ref p ∧ H' = upd H p (.tup [x, y]) ∧ (∀ xs, H a = some (.tup xs) → xs[i]? = some x) ∧ ∀ ys, H b = some (.tup ys) → ys[i]? = some y,
   fun i H => ∃ xs ys, H a = some (.tup xs) ∧ H b = some (.tup ys) ∧ (xs.length ≤ i ∨ ∃ x, xs[i]? = some x ∧ ys.length ≤ i)⟩
theorem turn_zipT {P : Program} {w : World} {K : PySem.W.Frag} {es : List Expr} {k0} {pos : Pos} {z TI TO i1 i2 : Addr} (a b : Addr) (D : Z5 z TI TO i1 i2) :
    Turn P w K (.Tuple es k0 pos) (Ity a b) [z, TI, TO, i1, i2] z (fun i h => IsZip h z TI TO .none ∧ IsPair h TI (.ref i1) (.ref i2) ∧ (∃ c d, IsPair h TO c d) ∧ h.IsTupleIter i1 a i ∧ h.IsTupleIter i2 b i) where
  mem := by simp
  obj := fun i h st c hc => by
    obtain ⟨e1, e2, ⟨_, _, e3⟩, ⟨o4, e4, _, d4⟩, ⟨o5, e5, _, d5⟩⟩ := st
    simp only [List.mem_cons, List.not_mem_nil, or_false] at hc
    rcases hc with rfl | rfl | rfl | rfl | rfl
    · exact ⟨_, e1, fun v z => by cases z⟩
    · exact ⟨_, e2, fun v z => by cases z⟩
    · exact ⟨_, e3, fun v z => by cases z⟩
    · exact ⟨_, e4, fun v z => by rw [d4] at z; cases z⟩
    · exact ⟨_, e5, fun v z => by rw [d5] at z; cases z⟩
  keep := fun i h h' st k => by
    obtain ⟨e1, e2, ⟨c, d, e3⟩, ⟨o4, e4, r4⟩, ⟨o5, e5, r5⟩⟩ := st
    exact ⟨k z (by simp) _ e1, k TI (by simp) _ e2, ⟨c, d, k TO (by simp) _ e3⟩, ⟨o4, k i1 (by simp) _ e4, r4⟩, ⟨o5, k i2 (by simp) _ e5, r5⟩⟩
  item := by
    intro X hP hw hK hc i pins s σ H E I hf st hg
    subst hP hw hK
    obtain ⟨xs, ys, x, y, ha, hb, hx, hy⟩ := hg
    obtain ⟨e1, e2, ⟨c, d, e3⟩, j1, j2⟩ := st
    obtain ⟨its, rv, pt, _⟩ := I.tuple (SqT.of (K := X.K) ha)
    obtain ⟨its2, rv2, eL, _⟩ := I.tuple (SqT.of (K := X.K) hb)
    obtain ⟨u, hu, ru⟩ := rv.get hx
    obtain ⟨u2, hu2, ru2⟩ := rv2.get hy
    have nz : ∀ e ∈ [z, TI, TO, i1, i2], H e = none := fun e he => (hf e he).1
    have Z : ZAp z TI TO i1 i2 a b := ⟨D.p1, D.p2, D.p3, D.p4, D.p5, D.p6, D.p7, D.p8, D.p9, D.p10, ne_of_none ha (nz z (by simp)), ne_of_none ha (nz TO (by simp)), ne_of_none ha (nz i1 (by simp)), ne_of_none ha (nz i2 (by simp)),
      ne_of_none hb (nz z (by simp)), ne_of_none hb (nz TO (by simp)), ne_of_none hb (nz i1 (by simp)), ne_of_none hb (nz i2 (by simp))⟩
    have hT : H s.heap.objs.size = none := I.fresh
    refine zipTT_item Z e1 e2 e3 j1 j2 (show s.heap.IsTuple a its.toArray from pt) (istup_at eL) (x := u) (y := u2) (by simpa using hu) (by simpa using hu2) fun g z1 to1 m1 m2 tp sz kk => ⟨_, rfl, ?_⟩
    refine wpAny_letOwnedTupleGo_zip z1 fun g2 z2 s2 => ?_
    have s2 : Heap.SameBut z g g2 := s2
    have k2 : ∀ e o, e ∉ [z, TO, i1, i2] → s.heap.get? e = some o → g2.get? e = some o := fun e o hn h => by
      simp only [List.mem_cons, List.not_mem_nil, or_false, not_or] at hn
      exact s2.extBut _ _ hn.1 (kk e o hn.1 hn.2.1 hn.2.2.1 hn.2.2.2 h)
    have zlt : z < s.heap.objs.size := Heap.lt_size e1
    have tp2 : IsPair g2 s.heap.objs.size u u2 := s2.extBut _ _ (Nat.ne_of_gt zlt) tp
    have sub : ∀ e ∈ [z, TO, i1, i2], e ∈ [z, TI, TO, i1, i2] := fun e he => by
      simp only [List.mem_cons, List.not_mem_nil, or_false] at he ⊢
      rcases he with rfl | rfl | rfl | rfl <;> simp
    have trk : ∀ e o, H e = some o → e ∉ [z, TO, i1, i2] := fun e o he hm => by rw [nz e (sub e hm)] at he; cases he
    have J : Inv X pins σ (upd H s.heap.objs.size (.tup [x, y])) { s with heap := g2 } := by
      refine I.turnAll (ch := [z, TO, i1, i2]) (fun e he => hf e (sub e he)) k2 (fun e o h => by rw [upd_ne (ne_of_none h hT)]; exact h) (fun e o h n => by rw [upd_ne (Nat.ne_of_lt (Heap.lt_size h))]; exact n) fun e o h => ?_
      by_cases q : e = s.heap.objs.size
      · subst q
        rw [upd_same] at h
        cases h
        exact ⟨by show 2 ≤ sizeLine; decide, [u, u2], .cons ru (.cons ru2 .nil), _, tp2, rfl, rfl, _, rfl⟩
      · rw [upd_ne q] at h
        refine (I.hok e o h).stay (fun c v hc' q' => k2 c v (by
          rcases hc' with z' | z'
          · rw [z']; exact trk e o h
          · exact trk c _ z') q') (fun c q' => by rw [upd_ne (ne_of_none q' hT)]; exact q') fun c xs q' => by rw [upd_ne (ne_of_none q' hT)]; exact q'
    refine ⟨.ref s.heap.objs.size, _, J, rfl, ⟨_, x, y, hT, rfl, rfl, fun xs' h' => by rw [ha] at h'; cases h'; exact hx, fun ys' h' => by rw [hb] at h'; cases h'; exact hy⟩, ⟨z2, ?_, ⟨u, u2, s2.extBut _ _ D.p2 to1⟩, ?_, ?_⟩, fun e he => ?_⟩
    · exact k2 _ _ (by simp [D.p1, D.p5, D.p6, D.p7]) e2
    · exact m1.extBut s2.extBut D.p3
    · exact m2.extBut s2.extBut D.p4
    · obtain ⟨o4, q4, _⟩ := j1
      obtain ⟨o5, q5, _⟩ := j2
      have hlt : e < s.heap.objs.size := by
        simp only [List.mem_cons, List.not_mem_nil, or_false] at he
        rcases he with rfl | rfl | rfl | rfl | rfl
        · exact Heap.lt_size e1
        · exact Heap.lt_size e2
        · exact Heap.lt_size e3
        · exact Heap.lt_size q4
        · exact Heap.lt_size q5
      rw [upd_ne (Nat.ne_of_lt hlt)]
      exact nz e he
  done := by
    intro X hP hw hK hc i pins s σ H E I hf st hg
    subst hP hw hK
    obtain ⟨xs, ys, ha, hb, hx⟩ := hg
    obtain ⟨e1, e2, ⟨c, d, e3⟩, j1, j2⟩ := st
    obtain ⟨its, rv, pt, _⟩ := I.tuple (SqT.of (K := X.K) ha)
    obtain ⟨its2, rv2, eL, _⟩ := I.tuple (SqT.of (K := X.K) hb)
    have nz : ∀ e ∈ [z, TI, TO, i1, i2], H e = none := fun e he => (hf e he).1
    have Z : ZAp z TI TO i1 i2 a b := ⟨D.p1, D.p2, D.p3, D.p4, D.p5, D.p6, D.p7, D.p8, D.p9, D.p10, ne_of_none ha (nz z (by simp)), ne_of_none ha (nz TO (by simp)), ne_of_none ha (nz i1 (by simp)), ne_of_none ha (nz i2 (by simp)),
      ne_of_none hb (nz z (by simp)), ne_of_none hb (nz TO (by simp)), ne_of_none hb (nz i1 (by simp)), ne_of_none hb (nz i2 (by simp))⟩
    have hl := rv.length
    have hl2 := rv2.length
    suffices key : ∀ g : Heap, (∀ e o, e ≠ z → e ≠ TO → e ≠ i1 → e ≠ i2 → s.heap.get? e = some o → g.get? e = some o) → Inv X pins σ H { s with heap := g } by
      rcases hx with hx | ⟨x0, hx0, hx⟩
      · exact zipTT_end (I.ok.hd hc) Z e1 e2 e3 j1 j2 (istup_at pt) (istup_at eL) (by simp; omega) fun g kk => ⟨rfl, key g kk⟩
      · obtain ⟨u, hu, _⟩ := rv.get hx0
        exact zipTT_end2 (I.ok.hd hc) Z e1 e2 e3 j1 j2 (istup_at pt) (istup_at eL) (x0 := u) (by simpa using hu) (by simp; omega) fun g kk => ⟨rfl, key g kk⟩
    intro g kk
    have sub : ∀ e ∈ [z, TO, i1, i2], e ∈ [z, TI, TO, i1, i2] := fun e he => by
      simp only [List.mem_cons, List.not_mem_nil, or_false] at he ⊢
      rcases he with rfl | rfl | rfl | rfl <;> simp
    have k2 : ∀ e o, e ∉ [z, TO, i1, i2] → s.heap.get? e = some o → g.get? e = some o := fun e o hn h => by
      simp only [List.mem_cons, List.not_mem_nil, or_false, not_or] at hn
      exact kk e o hn.1 hn.2.1 hn.2.2.1 hn.2.2.2 h
    have trk : ∀ e o, H e = some o → e ∉ [z, TO, i1, i2] := fun e o he hm => by rw [nz e (sub e hm)] at he; cases he
    refine I.turnAll (ch := [z, TO, i1, i2]) (fun e he => hf e (sub e he)) k2 (fun _ _ h => h) (fun _ _ _ n => n) fun e o h => ?_
    exact (I.hok e o h).stay (fun c v hc' q' => k2 c v (by
      rcases hc' with z' | z'
      · rw [z']; exact trk e o h
      · exact trk c _ z') q') (fun _ q' => q') fun _ _ q' => q'
  self := fun _ _ _ _ _ st h => wpAny_pyIter_zip st.1 h
def iZipT (ta : TA) : TI := fun σ H R => ta σ H fun vs H1 => ∃ a b xs ys, vs = [.ref a, .ref b] ∧ H1 a = some (.tup xs) ∧ H1 b = some (.tup ys) ∧ R (Ity a b) H1
theorem pi_zipT {ea eb : Expr} {ta : TA} {p pos : Pos} {es : List Expr} {k0} {pt : Pos} (hg : Gl X "zip") (hm : X.mg "zip" = none) (ha : PA X [ea, eb] ta) (hs : starEach [ea, eb] X.env = [(false, eval ea X.env), (false, eval eb X.env)] := by rfl) (hs2 : starEach [eb] X.env = [(false, eval eb X.env)] := by rfl) :
    PI X (.Tuple es k0 pt) (.Call (.Name "zip" p) [ea, eb] [] pos) (iZipT ta) := by
  intro pins s σ H R I h
  refine Call_ (ld_blt I hg hm boot_zip (PyProof.Rows.callWith_type1 (thn (ha pos pins s σ H _ I h) fun us s1 hz0 => ?_) (by rw [hs, hs2]) (by rw [hs2]; rfl)))
  obtain ⟨vs, H1, I1, r1, q1⟩ := hz0
  obtain ⟨a, b, xs, ys, e, hA, hB, q⟩ := q1
  subst e
  obtain ⟨u1, u2, rfl, r2, r3⟩ := vals2 r1
  cases (show u1 = Value.ref a from r2)
  cases (show u2 = Value.ref b from r3)
  obtain ⟨its, rv, pt', _⟩ := I1.tuple (SqT.of (K := X.K) hA)
  obtain ⟨its2, rv2, eL, _⟩ := I1.tuple (SqT.of (K := X.K) hB)
  refine call_zipTT (show s1.heap.IsTuple a its.toArray from pt') (istup_at eL) fun g z1 t1 t2 j1 j2 sz kk => ?_
  refine wpAny_pyIter_zip z1 ⟨s1.heap.objs.size + 4, [s1.heap.objs.size + 4, s1.heap.objs.size + 2, s1.heap.objs.size + 3, s1.heap.objs.size, s1.heap.objs.size + 1], _, Ity a b, H1, rfl, I1.kept (t' := s1.toks) kk, turn_zipT a b ?_, ⟨z1, t1, ⟨_, _, t2⟩, j1, j2⟩, fun e he => ?_, q⟩
  · constructor <;> (show @Ne Nat _ _; omega)
  · have hge : s1.heap.objs.size ≤ e := by
      simp only [List.mem_cons, List.not_mem_nil, or_false] at he
      rcases he with rfl | rfl | rfl | rfl | rfl <;> (show @LE.le Nat _ _ _; omega)
    exact I1.fpOk hge (I1.hok.fresh hge)
end
/-- over zip of two tuples, with two names -/
theorem compT_zip {K : PySem.W.Frag} {a b : Addr} {xs ys : List V} {js : List Nat} {tt : TT} {te : TE} {σ : St} {H : Hp} {Q : VK} (Pv : Nat → List V → Hp → Prop) (h0 : Pv 0 [] H) (hl : ∀ i zs H, i ≤ xs.length → Pv i zs H → H a = some (.tup xs) ∧ H b = some (.tup ys) ∧ zs.length ≤ i) (hz : xs.length ≤ sizeLine)
    (hs : ∀ i x y zs p H, xs[i]? = some x → ys[i]? = some y → Pv i zs H → H p = none → tt (some x :: some y :: blockSt σ js) (upd H p (.tup [x, y])) fun b H4 => if b = true then te (some x :: some y :: blockSt σ js) H4 fun y H5 => Pv (i + 1) (zs ++ [y]) H5 else Pv (i + 1) zs H4)
    (hd : ∀ zs H, Pv (min xs.length ys.length) zs H → ∀ D, H D = none → Q (.ref D) (upd H D (.lst zs))) : CompWT 2 (gPair K) js tt te σ Q (Ity a b) H := by
  refine ⟨fun i m zs H => i ≤ min xs.length ys.length ∧ m = xs.length - i ∧ Pv i zs H, ⟨_, Nat.zero_le _, rfl, h0⟩, fun i m zs H2 hz0 => ?_⟩
  obtain ⟨hi, hm, hp⟩ := hz0
  obtain ⟨qa, qb, hy⟩ := hl i zs H2 (by omega) hp
  by_cases e : i = min xs.length ys.length
  · refine .inl ⟨⟨xs, ys, qa, qb, ?_⟩, by rw [e] at hp; exact hd zs H2 hp⟩
    by_cases e1 : xs.length ≤ i
    · exact .inl e1
    · exact .inr ⟨_, List.getElem?_eq_getElem (by omega), by omega⟩
  · have hlt : i < xs.length := by omega
    have hlt2 : i < ys.length := by omega
    refine .inr ⟨⟨xs, ys, _, _, qa, qb, List.getElem?_eq_getElem hlt, List.getElem?_eq_getElem hlt2⟩, by omega, Pv (i + 1), fun ys' H' hp' => ⟨xs.length - (i + 1), by omega, by omega, rfl, hp'⟩, fun v H3 hy3 v0 hv0 => ?_⟩
    obtain ⟨p, x, y, hn, rfl, rfl, hx, hy⟩ := hy3
    match v0, hv0 with
    | [v1, v2], _ => exact ⟨p, _, rfl, SqT.of upd_same, rfl, _, _, rfl, _, _, rfl, rfl, ⟨[some x, some y], rfl, rfl⟩, hs i x y zs p H2 (hx xs qa) (hy ys qb) hp hn⟩
end L2

/-! t[::-1] and t[a:b] of tuples, also the whole of one; sum of a list of whole numbers. -/
namespace L2
open PySem PySem.Spec PyProof.Rows
theorem places_back (n : Nat) : Builtin.Slice.slicePlaces ((n : Int) - 1) (-1) (-1) = n := by
  unfold Builtin.Slice.slicePlaces
  rw [if_neg (by decide)]
  by_cases h : (n : Int) - 1 > -1
  · rw [if_pos h, show -(-1 : Int) = 1 from rfl, Int.ediv_one]; omega
  · rw [if_neg h]; omega
theorem fm_some {α β : Type} {f : α → Option β} {g : α → β} : ∀ (l : List α), (∀ x ∈ l, f x = some (g x)) → l.filterMap f = l.map g
  | [], _ => rfl
  | x :: l, h => by rw [List.filterMap_cons, h x (by simp), List.map_cons, fm_some l fun y hy => h y (List.mem_cons_of_mem _ hy)]
theorem pick_back (xs : Array Value) : ((List.range xs.size).filterMap fun (k : Nat) => xs[((xs.size : Int) - 1 + (k : Int) * (-1)).toNat]?) = xs.toList.reverse := by
  have e : ∀ k ∈ List.range xs.size, (fun (k : Nat) => xs[((xs.size : Int) - 1 + (k : Int) * (-1)).toNat]?) k = some ((fun k => xs.toList.getD (xs.size - 1 - k) .none) k) := fun k hk => by
    have hk := List.mem_range.mp hk
    have : ((xs.size : Int) - 1 + (k : Int) * (-1)).toNat = xs.size - 1 - k := by omega
    show xs[((xs.size : Int) - 1 + (k : Int) * (-1)).toNat]? = some (xs.toList.getD (xs.size - 1 - k) .none)
    rw [this, List.getD_eq_getElem?_getD, Array.getElem?_toList, Array.getElem?_eq_getElem (by omega)]
    rfl
  rw [fm_some _ e]
  refine List.ext_getElem (by simp) fun i h1 h2 => ?_
  have hi : i < xs.size := by simpa using h1
  rw [List.getElem_map, List.getElem_range, List.getElem_reverse, List.getD_eq_getElem?_getD, List.getElem?_eq_getElem (by rw [Array.length_toList]; omega)]
  simp
section
variable {prog : Program} {w : World} {A : Around} {E : Value → Shared → Prop} {s : Shared}
theorem applied_back {sl : Addr} {t : Tok} {n : Nat} {Q : Int × Int × Nat → Shared → Prop} (hs : s.heap.IsSliceOf sl .none .none (.int (-1) t)) (h : Q ((n : Int) - 1, -1, n) s) : wpAny (model prog w) A (Builtin.Slice.sliceApplied (.ref sl) (pure (n : Int))) Q E s := by
  obtain ⟨os, hos, hcs, hds⟩ := id hs
  unfold Builtin.Slice.sliceApplied Builtin.Slice.sliceFields
  refine wpAny_bind (wpAny_bind (wpAny_field hos hds (x := .none) rfl (wpAny_bind (wpAny_field hos hds (x := .none) rfl (wpAny_bind (wpAny_field hos hds (x := .int (-1) t) rfl (wpAny_pure ?_)))))))
  refine wpAny_bind (slicePart_int ?_)
  show wpAny _ _ (if ((-1 : Int) == 0) = true then _ else _) _ _ s
  rw [if_neg (by decide)]
  refine wpAny_bind (slicePart_none (wpAny_bind (slicePart_none (wpAny_bind (wpAny_pure ?_)))))
  show wpAny _ _ (pure ((n : Int) - 1, (-1 : Int), Builtin.Slice.slicePlaces ((n : Int) - 1) (-1) (-1))) _ _ s
  rw [places_back]
  exact wpAny_pure h
theorem getItem_back {t sl : Addr} {items : Array Value} {u : Tok} {Q : Value → Shared → Prop} (ht : IsTup s.heap t items) (hs : s.heap.IsSliceOf sl .none .none (.int (-1) u))
    (h : Q (.ref s.heap.objs.size) { s with heap := s.heap.push { cls := .type "tuple", data := .seq items.toList.reverse.toArray } })
    (hsz : items.size ≤ sizeLine) : wpAny (model prog w) A (getItem (.ref t) (.ref sl)) Q E s := by
  have hz : sizeOk (.seq items.toList.reverse.toArray) := by
    show items.toList.reverse.toArray.size ≤ sizeLine
    rw [List.size_toArray, List.length_reverse, Array.length_toList]
    exact hsz
  obtain ⟨os, hos, hcs, hds⟩ := id hs
  have hTs : s.TypeIs (.ref sl) "slice" := ⟨os, hos, hcs⟩
  unfold getItem
  try with_reducible refine wpAny_holding ?_
  first | refine wpAny_bind (wpAny_pure ?_) | skip
  refine wpAny_bind (wpAny_sequenceKey ht.typeIs (by decide) ?_)
  refine wpAny_bind (wpAny_callSpecial?_slot (name := Str.ofString "__getitem__") ht.typeIs PyProof.Rows.slot_tuple_getitem
    (wpAny_call_entry PyProof.Rows.slot_tuple_getitem ht.typeIs entry_tuple_getitem ?_ (args_tuple_getitem _ _)))
  show wpAny _ _ (Builtin.Tuple.tupleItemsOf (.ref t) >>= _) _ _ s
  refine wpAny_bind (tupleItemsOf_ ht ?_)
  refine wpAny_bind (wpAny_typeOf hTs ?_)
  rw [if_pos (by decide)]
  refine wpAny_bind (applied_back (n := items.size) hs ?_)
  have hno : ¬ ((((items.size : Int) - 1) == 0 && (-1 : Int) == 1 && items.size == items.size) = true) := by
    intro q
    rw [Bool.and_eq_true, Bool.and_eq_true] at q
    exact absurd q.1.2 (by decide)
  show wpAny _ _ (if (((items.size : Int) - 1) == 0 && (-1 : Int) == 1 && items.size == items.size) = true then _ else _) _ _ s
  rw [if_neg hno, pick_back]
  first
    | exact wpAny_bind (m := Builtin.Tuple.tupleExact _) (wpAny_newObj_type (wpAny_pure ⟨_, rfl, wpAny_pure h⟩) hz)
    | exact wpAny_bind (m := Builtin.Tuple.tupleExact _) (wpAny_newObj_type (wpAny_bind (wpAny_pure (wpAny_pure ⟨_, rfl, wpAny_pure h⟩))) hz)
    | exact wpAny_bind (wpAny_bind (m := Builtin.Tuple.tupleExact _) (wpAny_newObj_type (wpAny_pure (wpAny_pure ⟨_, rfl, wpAny_pure h⟩)) hz))
    | exact wpAny_bind (wpAny_bind (m := Builtin.Tuple.tupleExact _) (wpAny_newObj_type (wpAny_pure ⟨_, rfl, wpAny_pure h⟩) hz))
theorem getItem_all {t sl : Addr} {items : Array Value} {vl vu : Value} {lo hi : Option Int} {Q : Value → Shared → Prop} (ht : IsTup s.heap t items) (hs : s.heap.IsSliceOf sl vl vu .none) (pl : IsPart vl lo) (pu : IsPart vu hi)
    (hw : HT.sIx items.size 0 lo = 0 ∧ HT.sIx items.size items.size hi = items.size) (h : Q (.ref t) s) : wpAny (model prog w) A (getItem (.ref t) (.ref sl)) Q E s := by
  obtain ⟨os, hos, hcs, hds⟩ := id hs
  have hTs : s.TypeIs (.ref sl) "slice" := ⟨os, hos, hcs⟩
  unfold getItem
  try with_reducible refine wpAny_holding ?_
  first | refine wpAny_bind (wpAny_pure ?_) | skip
  refine wpAny_bind (wpAny_sequenceKey ht.typeIs (by decide) ?_)
  refine wpAny_bind (wpAny_callSpecial?_slot (name := Str.ofString "__getitem__") ht.typeIs PyProof.Rows.slot_tuple_getitem
    (wpAny_call_entry PyProof.Rows.slot_tuple_getitem ht.typeIs entry_tuple_getitem ?_ (args_tuple_getitem _ _)))
  show wpAny _ _ (Builtin.Tuple.tupleItemsOf (.ref t) >>= _) _ _ s
  refine wpAny_bind (tupleItemsOf_ ht ?_)
  refine wpAny_bind (wpAny_typeOf hTs ?_)
  rw [if_pos (by decide)]
  refine wpAny_bind (HT.sliceApplied_gen hs pl pu ?_)
  show wpAny _ _ (if (((HT.sIx items.size 0 lo : Nat) : Int) == 0 && (1 : Int) == 1 && (HT.sIx items.size items.size hi - HT.sIx items.size 0 lo) == items.size) = true then _ else _) _ _ s
  rw [hw.1, hw.2, Nat.sub_zero, if_pos (by simp)]
  unfold Builtin.Tuple.tupleIsExact
  refine wpAny_bind (wpAny_bind (wpAny_typeOf ht.typeIs (wpAny_pure ?_)))
  rw [if_pos (by decide)]
  exact wpAny_bind (wpAny_rule (wpAny_pure ⟨_, rfl, wpAny_pure h⟩))
end
section
variable {X : Cx}
/-- t[a:b], be it the whole or a part -/
theorem sl_tupN : SlR X (fun x lo hi H Q => ∃ a xs, x = .ref a ∧ H a = some (.tup xs) ∧ New H (.tup (cutV xs lo hi)) Q) := by
  intro pins s σ H x v vl vu lo hi sl Q I rx hs pl pu h
  obtain ⟨a, xs, rfl, hx, q⟩ := h
  by_cases hw : HT.sIx xs.length 0 lo = 0 ∧ HT.sIx xs.length xs.length hi = xs.length
  · cases rx
    obtain ⟨its, r, ht, hz⟩ := I.tuple (SqT.of (K := X.K) hx)
    have hlen : its.toArray.size = xs.length := by rw [List.size_toArray]; exact r.length.symm
    refine ⟨"tuple", _, PyProof.Rows.slot_tuple_getitem.lookup, ht.typeIs, ?_⟩
    refine getItem_all ht hs pl pu (by rw [hlen]; exact hw) ⟨.ref a, H, I, rfl, q a H (Same.refl H) ?_⟩
    have e : cutV xs lo hi = xs := by unfold cutV; rw [hw.1, hw.2, List.drop_zero, Nat.sub_zero, List.take_length]
    rw [e]; exact hx
  · exact sl_tup pins s σ H _ v vl vu lo hi sl Q I rx hs pl pu ⟨a, xs, rfl, SqT.of hx, hw, q.of⟩
theorem vals_back : ∀ {xs : List V} {us : List Value}, Vals xs us → Vals xs.reverse us.reverse
  | _, _, .nil => .nil
  | _ :: _, _ :: _, .cons r t => by rw [List.reverse_cons, List.reverse_cons]; exact (vals_back t).append (.cons r .nil)
def tBack (te : TE) : TE := fun σ H Q => te σ H fun x H1 => ∃ a xs, x = .ref a ∧ H1 a = some (.tup xs) ∧ New H1 (.tup xs.reverse) Q
/-- t[::-1] -/
theorem pe_back {e : Expr} {te : TE} {pos p1 p2 p3 : Pos} {j} (he : PE X e te) : PE X (.Subscript e (.Slice none none (some (.UnaryOp .USub (.Constant (.int 1) j p3) p1)) p2) pos) (tBack te) := by
  intro pins s σ H Q I h
  refine Subscript_ (thn (he pins s σ H _ I h) fun v s1 hz0 => ?_)
  obtain ⟨x, H1, I1, r1, q1⟩ := hz0
  obtain ⟨a, xs, rfl, hx, q⟩ := q1
  refine wpAny_Slice ?_
  rw [evalPart_none, evalPart_some]
  refine wpAny_pure (wpAny_pure ?_)
  refine thn ((pe_un un_neg pe_int : PE X (.UnaryOp .USub (.Constant (.int 1) j p3) p1) _) pins s1 σ H1 (fun x H2 => x = .int (-1) ∧ H2 = H1) I1 ⟨_, rfl, rfl, rfl⟩) fun u s2 hz0 => ?_
  obtain ⟨x2, H2, I2, r2, e2, e3⟩ := hz0
  subst e2 e3
  obtain ⟨t, rfl⟩ := r2
  cases r1
  have I4 : Inv X pins σ H2 { s2 with heap := s2.heap.push { cls := .type "slice", data := .fields #[.none, .none, .int (-1) t] } } := I2.kept (t' := s2.toks) fun b ob q => Heap.get?_push_of_some _ q
  obtain ⟨its, r, ht, hz⟩ := I4.tuple (SqT.of (K := X.K) hx)
  have hlen : its.toArray.size = xs.length := by rw [List.size_toArray]; exact r.length.symm
  refine tail_any (ops := [.ref a, .ref s2.heap.objs.size]) ht.typeIs PyProof.Rows.slot_tuple_getitem.lookup (getItem_back ht (Heap.IsSliceOf.new ..) ?_ (by rw [hlen]; exact hz)) (by with_unfolding_all rfl)
  refine ⟨.ref _, _, I4.laid (t' := s2.toks) (o := .tup xs.reverse) (fun _ _ z => Heap.get?_push_of_some _ z) (Nat.le_refl _) ⟨by rw [List.length_reverse]; exact hz, its.reverse, vals_back r, IsTupN.new _ _⟩, rfl, q.of _ I4.fresh⟩
end
end L2

/-! l != []; t * 10, also of the empty one; comprehensions over a tuple of pairs. -/
namespace L2
open PySem PySem.Spec PyProof.Rows
section
variable {X : Cx}
theorem op_neL0 (hu : X.A.units < cLine) : OpR X (compareOp .NotEq) (fun x y H Q => ∃ a b xs, x = .ref a ∧ y = .ref b ∧ SqL X.K H a xs ∧ SqL X.K H b [] ∧ Q (.bl (!xs.isEmpty)) H) := by
  intro pins s σ H x y v u Q I rx ry h
  obtain ⟨a, b, xs, rfl, rfl, ha, hb, q⟩ := h
  cases (show v = Value.ref a from rx)
  cases (show u = Value.ref b from ry)
  obtain ⟨its, r1, p1, _⟩ := I.list ha
  obtain ⟨its2, r2, p2, _⟩ := I.list hb
  cases r2
  cases r1 with
  | nil =>
    refine SeqAt.RcNeAt.lists (A := X.A) (e := fun _ => true) p1.isList p2.isList rfl hu (fun j h1 _ => absurd h1 (by simp)) X.prog X.w _ _ (fin_bl I q (by simp))
  | cons _ _ => exact SeqAt.RcNeAt.lists_lengths (A := X.A) p1.isList p2.isList (by simp) hu X.prog X.w _ _ (fin_bl I q (by simp))
end
section
open AutoSeq1 (wpAny_loadPart')
end
section
variable {X : Cx}
end
end L2

/-! set(l) of a list of whole numbers, and how many it has. -/
namespace L2
open PySem PySem.Spec PyProof.Rows
def metL (ns : List Int) : List Int := firstMet (fun i => ns.getD i 0) ns.length
section
variable {X : Cx}
end
end L2

/-! more judgements as structures. -/
namespace L2
open PySem PySem.Spec PyProof.Rows
section
variable {X : Cx} {e : Expr} {es : List Expr} {te : TE} {t : TA} {pos : Pos}
end
end L2

/-! list(range(n)); t[::d] with d 1 or -1. -/
namespace L2
open PySem PySem.Spec PyProof.Rows
section
variable {X : Cx}
end
section
variable {prog : Program} {w : World} {A : Around} {E : Value → Shared → Prop} {s : Shared}
end
section
variable {X : Cx}
end
end L2

/-! x = [.. for a, b in ..] into a plain local. -/
namespace L2
open PySem PySem.Spec PyProof.Rows
end L2

/-! == and != of lists of plain data. -/
namespace L2
open PySem PySem.Spec PyProof.Rows
section
variable {X : Cx} {pins : List (Addr × Obj)} {σ : St} {H : Hp} {s : Shared}
/-- != of two lists of plain data -/
theorem op_neLD (hu : X.A.units + 64 < cLine) : OpR X (compareOp .NotEq) (fun x y H Q => ∃ (a b : Addr) (xs ys : List V) (ds es : List Dt), (x = .ref a ∧ y = .ref b) ∧ (H a = some (.lst xs) ∧ H b = some (.lst ys)) ∧ IsDs H xs ds ∧ IsDs H ys es ∧ ds.length = es.length ∧ pls ds = true ∧ pls es = true ∧ deps ds < 60 ∧ Q (.bl (!(eqDs ds es))) H) := by
  intro pins s σ H x y v u Q I rx ry h
  obtain ⟨a, b, xs, ys, ds, es, ⟨rfl, rfl⟩, ⟨ha, hb⟩, r, r', le, pd, pe, hd, q⟩ := h
  cases (show v = Value.ref a from rx)
  cases (show u = Value.ref b from ry)
  obtain ⟨its, rv, p, _⟩ := I.list (SqL.of (K := X.K) ha)
  obtain ⟨its2, rv2, p2, _⟩ := I.list (SqL.of (K := X.K) hb)
  have p : s.heap.IsList a its.toArray := p.isList
  have p2 : s.heap.IsList b its2.toArray := p2.isList
  have l1 : its.length = ds.length := by rw [← rv.length, r.length]
  have l2 : its2.length = es.length := by rw [← rv2.length, r'.length]
  have key := SeqAt.RcNeAt.lists (A := X.A) (e := fun j => eqD (ds.getD j .non) (es.getD j .non)) p p2 (by rw [List.size_toArray, List.size_toArray]; omega) (by omega) (fun j h1 h2 => by
    have h1' : j < its.length := by simpa using h1
    have h2' : j < its2.length := by simpa using h2
    obtain ⟨x', ex, dx⟩ := r.at (i := j) (d := ds[j]'(by omega)) (List.getElem?_eq_getElem (by omega))
    obtain ⟨y', ey, dy⟩ := r'.at (i := j) (d := es[j]'(by omega)) (List.getElem?_eq_getElem (by omega))
    obtain ⟨u', eu, ru⟩ := rv.get ex
    obtain ⟨v', ev, rw'⟩ := rv2.get ey
    have eu' : its[j] = u' := by rw [List.getElem?_eq_getElem h1'] at eu; exact Option.some.inj eu
    have ev' : its2[j] = v' := by rw [List.getElem?_eq_getElem h2'] at ev; exact Option.some.inj ev
    have g1 : ds.getD j .non = ds[j]'(by omega) := by rw [List.getD_eq_getElem?_getD, List.getElem?_eq_getElem (by omega)]; rfl
    have g2 : es.getD j .non = es[j]'(by omega) := by rw [List.getD_eq_getElem?_getD, List.getElem?_eq_getElem (by omega)]; rfl
    show SeqAt.EqAt X.A.in1 s (its.toArray[j]) (its2.toArray[j]) (eqD (ds.getD j .non) (es.getD j .non))
    rw [List.getElem_toArray, List.getElem_toArray, eu', ev', g1, g2]
    exact eqAt_D 60 (Nat.le_trans (deps_get (List.getElem?_eq_getElem (by omega))) (by omega)) (by show X.A.units + 1 + 60 < cLine; omega) I dx dy ru rw' (pls_get pd (List.getElem?_eq_getElem (by omega))) (pls_get pe (List.getElem?_eq_getElem (by omega))))
  refine key X.prog X.w _ _ (fin_bl I q ?_)
  rw [eqDs_all, List.size_toArray, l1, ← le, Nat.min_self, beq_self_eq_true, Bool.and_true]
end
end L2

/-! list.count and list.index of True in a list of truths. -/
namespace L2
open PySem PySem.Spec PyProof.Rows
section
variable {X : Cx}
def isT : Value → Bool := fun v => match v with | .bool b => b | _ => false
theorem vals_bls : ∀ {bs : List Bool} {us : List Value}, Vals (bs.map V.bl) us → us = bs.map Value.bool
  | [], _, .nil => rfl
  | b :: bs, _, .cons r t => by rw [List.map_cons, vals_bls t]; exact congrArg (· :: _) r
theorem countP_bls : ∀ bs : List Bool, (bs.map Value.bool).countP isT = bs.count true
  | [] => rfl
  | b :: bs => by
    rw [List.map_cons, List.countP_cons, countP_bls bs, List.count_cons]
    cases b <;> rfl
theorem eq_bls {pins : List (Addr × Obj)} {σ : St} {H : Hp} {s : Shared} {bs : List Bool} {y : Value} (I : Inv X pins σ H s) (hu : X.A.units + 64 < cLine) (hy : y ∈ (bs.map Value.bool).toArray) : SeqAt.EqAt X.A.in1 s y (.bool true) (isT y) := by
  obtain ⟨b, _, rfl⟩ := List.mem_map.mp (by simpa using hy : y ∈ bs.map Value.bool)
  have h := eqAt_D (A := X.A.in1) 0 (by unfold dep; decide) (by show X.A.units + 1 + 0 < cLine; omega) I (IsD.bl b) (IsD.bl true) (rfl : RelV (.bl b) (.bool b)) (rfl : RelV (.bl true) (.bool true)) (by unfold pl; rfl) (by unfold pl; rfl)
  have e : eqD (.bl b) (.bl true) = isT (.bool b) := by unfold eqD isT; cases b <;> rfl
  rw [← e]
  exact h
def rCountB : V → List V → Hp → VK → Prop := fun x vs H Q => ∃ (l : Addr) (bs : List Bool), x = .ref l ∧ vs = [.bl true] ∧ H l = some (.lst (bs.map V.bl)) ∧ Q (.int (bs.count true : Nat)) H
theorem mt_countB (hu : X.A.units + 64 < cLine) : MtM X "list.count" rCountB := by
  intro pins s σ H x vs v us Q I rx rv h
  obtain ⟨l, bs, rfl, rfl, hH, q⟩ := h
  cases (show v = Value.ref l from rx)
  obtain ⟨u, rfl, ru⟩ := rv.one
  cases (show u = Value.bool true from ru)
  obtain ⟨z, its, n, r, hl, e⟩ := I.lstM hH
  have ei := vals_bls r
  subst ei
  refine call_meets F.slot_list_count ⟨_, e, rfl⟩ F.entry_list_count (F.args_list_count_2 _ _) (SeqAt.list_countAt l (bs.map Value.bool).toArray n none #[] (.bool true) isT) ⟨e, fun y hy => eq_bls I hu hy, ?_⟩
  · rw [List.toList_toArray, countP_bls]
    exact ⟨.int (bs.count true : Nat), H, I.tok _, ⟨_, rfl⟩, q⟩
def rIndexB : V → List V → Hp → VK → Prop := fun x vs H Q => ∃ (l : Addr) (bs : List Bool) (i : Nat), x = .ref l ∧ vs = [.bl true] ∧ H l = some (.lst (bs.map V.bl)) ∧ bs[i]? = some true ∧ (∀ j, j < i → bs[j]? ≠ some true) ∧ i ≤ 1000 ∧ Q (.int (i : Nat)) H
theorem mt_indexB (hu : X.A.units + 64 < cLine) : MtM X "list.index" rIndexB := by
  intro pins s σ H x vs v us Q I rx rv h
  obtain ⟨l, bs, i, rfl, rfl, hH, hi, hno, hsm, q⟩ := h
  cases (show v = Value.ref l from rx)
  obtain ⟨u, rfl, ru⟩ := rv.one
  cases (show u = Value.bool true from ru)
  obtain ⟨z, its, n, r, hl, e⟩ := I.lstM hH
  have ei := vals_bls r
  subst ei
  obtain ⟨hil, hib⟩ := List.getElem?_eq_some_iff.mp hi
  refine call_meets F.slot_list_index ⟨_, e, rfl⟩ F.entry_list_index (F.args_list_index_2 _ _) (SeqAt.list_indexAt l (bs.map Value.bool).toArray n none #[] (.bool true) isT i (by simpa using hil) (by omega) ?_ fun m hm hmi => ?_) ⟨e, fun y hy => eq_bls I hu hy, ⟨.int (i : Nat), H, I.tok _, ⟨_, rfl⟩, q⟩⟩
  · rw [List.getElem_toArray, List.getElem_map, hib]; rfl
  · rw [List.getElem_toArray, List.getElem_map]
    have hm' : m < bs.length := by simpa using hm
    have := hno m hmi
    rw [List.getElem?_eq_getElem hm'] at this
    cases z : bs[m] with
    | false => rfl
    | true => rw [z] at this; exact absurd rfl this
end
end L2

/-! THE PROGRAM's own defs: what is a net. -/
namespace L2
open PySem PyProof.Rows
section
variable {X : Cx}
theorem ixNT (K : PySem.W.Frag) (hK : X.K = K := by rfl) : IxR X (rIxT K) := by subst hK; exact ix_tup
theorem ixNL (K : PySem.W.Frag) (hK : X.K = K := by rfl) : IxR X (rIxL K) := by subst hK; exact ix_list
theorem piNL (K : PySem.W.Frag) {tg l : Expr} {tl : TE} (hl : PE X l tl) (hK : X.K = K := by rfl) : PI X tg l (iList K tl) := by subst hK; exact pi_list hl
theorem piNT (K : PySem.W.Frag) {tg l : Expr} {tl : TE} (hl : PE X l tl) (hK : X.K = K := by rfl) : PI X tg l (iTup K tl) := by subst hK; exact pi_tup hl
theorem catN (K : PySem.W.Frag) (hK : X.K = K := by rfl) : OpR X (binaryOp .Add) (rCatA K) := by subst hK; exact op_catA
theorem lenN (K : PySem.W.Frag) (hK : X.K = K := by rfl) : CallR X (.builtin "len") (fun xs H Q => ∃ p ys, xs = [.ref p] ∧ (SqL K H p ys ∨ SqT K H p ys) ∧ Q (.int ys.length) H) := by subst hK; exact call_len_seq
theorem tupN (K : PySem.W.Frag) (hK : X.K = K := by rfl) : CallR X (.type "tuple") (fun xs H Q => ∃ p ys, xs = [.ref p] ∧ SqL K H p ys ∧ New H (.tup ys) Q) := by subst hK; exact call_tupA
theorem lstN (K : PySem.W.Frag) (hK : X.K = K := by rfl) : CallR X (.type "list") (fun xs H Q => ∃ p ys, xs = [.ref p] ∧ (SqL K H p ys ∨ SqT K H p ys) ∧ ∀ l, H l = none → Q (.ref l) (upd H l (.lst ys))) := by subst hK; exact call_list_of
theorem tupG (K : PySem.W.Frag) {es : List Expr} {k : Nat} {pos : Pos} {t : TGs} {n : Nat} (hc : X.calm = true) (h : PGs X es t) (hK : X.K = K := by rfl)
    (hn : (assignEach es X.env).length = n := by rfl) (hst : (assignEach es X.env).findIdx? (·.1) = none := by rfl) : PG X (.Tuple es k pos) (gTup K n t) := by subst hK; exact pg_tup hc h hn hst
theorem bmN (K : PySem.W.Frag) {o e : Expr} {es : List Expr} {to : TE} {t : TA} {name : Str} {apos cpos : Pos} {T id : String} {r : V → List V → Hp → VK → Prop} (pa : PlainAttrs T) (slot : Slot T name id) (hty : typeOf (.builtin id) = pure (.type "method_descriptor")) (hm : MtR X id r) (ho : PE X o to) (ha : PA X (e :: es) t) (hK : X.K = K := by rfl)
    (hbase : attributeBase o name X.env (eval o X.env) = eval o X.env := by rfl)
    (hfew : ((backTo cpos (starEach (e :: es) X.env)).all (fun x => !x.1) && (backToKw cpos (keywordEach [] X.env)).all (fun x => x.1.isSome)
      && decide ((e :: es).length + ([] : List Keyword).length + (if ([] : List Keyword).isEmpty then 0 else 1) < 30)) = true := by rfl)
    (hline : (apos.endLine == cpos.line) = true := by rfl) (hs : starEach (e :: es) X.env = (false, eval e X.env) :: starEach es X.env := by rfl) (hplain : (backTo cpos (starEach es X.env)).any (·.1) = false := by rfl) :
    PE X (.Call (.Attribute o name apos) (e :: es) [] cpos) (tBM K T r to t) := by subst hK; exact pe_bm pa slot hty hm ho ha hbase hfew hline hs hplain
end
end L2
namespace HN
open PySem L2 PyProof.Rows

/-! ### 1. the mathematics -/
def isI : V → Bool
  | .int _ => true
  | _ => false
def iv : V → Int
  | .int i => i
  | _ => 0
def inI (v : V) (lo hi : Int) : Bool := match v with
  | .int i => decide (lo ≤ i) && decide (i ≤ hi)
  | _ => false
/-- its sort is known; so are those of its items, and of theirs -/
def Kn (H : Hp) (v : V) : Prop := ∃ T, tyn H v = some T
def Below (P : V → Prop) (H : Hp) (v : V) : Prop := Kn H v ∧ ∀ a xs, v = .ref a → H a = some (.tup xs) → ∀ x ∈ xs, P x
abbrev G1 (H : Hp) (v : V) : Prop := Below (Kn H) H v
abbrev G2 (H : Hp) (v : V) : Prop := Below (G1 H) H v
abbrev G3 (H : Hp) (v : V) : Prop := Below (G2 H) H v

theorem sort_int {H : Hp} {v : V} {T : String} (h : tyn H v = some T) : (T == "int" || T == "bool") = true → (!(T == "bool")) = isI v := by
  cases v with
  | ref a =>
    simp only [tyn] at h
    cases q : H a with
    | none => rw [q] at h; cases h
    | some o => rw [q] at h; cases o <;> first | (cases h; intro z; exact absurd z (by decide)) | cases h
  | non => cases h; intro z; exact absurd z (by decide)
  | bl b => cases h; intro _; show (!("bool" == "bool")) = false; decide
  | int i => cases h; intro _; show (!("int" == "bool")) = true; decide
  | str x => cases h; intro z; exact absurd z (by decide)
  | _ => cases h
theorem sort_noInt {H : Hp} {v : V} {T : String} (h : tyn H v = some T) : ¬ (T == "int" || T == "bool") = true → isI v = false := by
  cases v with
  | int i => cases h; intro z; exact absurd (by decide) z
  | _ => intro _; rfl
theorem isI_of {v : V} (h : isI v = true) : ∃ i, v = .int i := by
  cases v with
  | int i => exact ⟨i, rfl⟩
  | _ => cases h
theorem iteB {b : Bool} {A B : Prop} (h : b = true) (x : A) : if b = true then A else B := by rw [if_pos h]; exact x
theorem iteC {b : Bool} {A B : Prop} (h : b = false) (x : B) : if b = true then A else B := by rw [if_neg (by rw [h]; exact Bool.false_ne_true)]; exact x

/-! ### 2. what the text has -/
structure Nm (mg : Str → Option Value) : Prop where
  isin : mg "isinstance" = none
  tint : mg "int" = none
  tbool : mg "bool" = none
  ttup : mg "tuple" = none
  len : mg "len" = none
  min : mg "min" = none
  all : mg "all" = none
structure Fn (K : PySem.W.Frag) (mg : Str → Option Value) (x : Str) (st : Stmt) (ps : List Str) (f : Addr) (fd : FuncData) : Prop where
  F : Fun K x x st f fd
  mg : mg x = some (.ref f)
  b : Binds K fd ps []
theorem pc1 {X : Cx} {k : Nat} {f : Addr} {fd : FuncData} {ps : List Str} {sp : Sp} {x : Str} {st : Stmt} {p pos : Pos} {e : Expr} {es : List Expr} {t : TA} (G : Fn X.K X.mg x st ps f fd) (F : FnOk X.prog X.w X.K X.mg X.base CX0 k f fd ps sp) (hr : Room k X.A)
    (ha : PA X (e :: es) t) (hg : Gl X x := by rfl) (hdb : (x == ("__debug__" : Str)) = false := by decide) (he : starEach (e :: es) X.env = (false, eval e X.env) :: starEach es X.env := by rfl) (hpl : (backTo pos (starEach es X.env)).any (·.1) = false := by rfl) :
    PE X (.Call (.Name x p) (e :: es) [] pos) (tCall sp [] E0 t) := pe_call F hr hg G.mg G.F.kp G.b .nil pass0 ha hdb he hpl
theorem pe_gint {X : Cx} {x : Str} {i : Int} {pos : Pos} (hm : ∃ t, X.mg x = some (.int i t)) (hg : Gl X x := by rfl) (hd : (x == ("__debug__" : Str)) = false := by decide) : PE X (.Name x pos) (tC (.int i)) :=
  let ⟨t, e⟩ := hm; pe_glob (v := .int i) (u := .int i t) hg e ⟨t, rfl⟩ hd
/-- isinstance(e, T) -/
theorem pe_isTup {X : Cx} {e : Expr} {te : TE} {p p2 pos : Pos} (N : Nm X.mg) (he : PE X e te) (hg : Gl X "isinstance" := by rfl) (hg2 : Gl X "tuple" := by rfl)
    (hs1 : starEach [e, .Name "tuple" p2] X.env = (false, eval e X.env) :: starEach [.Name "tuple" p2] X.env := by rfl) (hpl : (backTo pos (starEach [.Name "tuple" p2] X.env)).any (·.1) = false := by rfl) :
    PE X (.Call (.Name "isinstance" p) [e, .Name "tuple" p2] [] pos) (tCB (fun xs H Q => ∃ x T, xs = [x, .ty "tuple"] ∧ tyn H x = some T ∧ Q (.bl (T == "tuple")) H) (tCons te (tCons (tC (.ty "tuple")) tNil))) :=
  pe_callB call_isTup hg N.isin boot_isinstance (pa_cons he (pa_cons (pe_bltn hg2 N.ttup boot_tuple rfl) pa_nil) hs1) (he := hs1) (hpl := hpl)
theorem pe_isInt {X : Cx} {e : Expr} {te : TE} {p p2 pos : Pos} (N : Nm X.mg) (he : PE X e te) (hg : Gl X "isinstance" := by rfl) (hg2 : Gl X "int" := by rfl)
    (hs1 : starEach [e, .Name "int" p2] X.env = (false, eval e X.env) :: starEach [.Name "int" p2] X.env := by rfl) (hpl : (backTo pos (starEach [.Name "int" p2] X.env)).any (·.1) = false := by rfl) :
    PE X (.Call (.Name "isinstance" p) [e, .Name "int" p2] [] pos) (tCB (fun xs H Q => ∃ x T, xs = [x, .ty "int"] ∧ tyn H x = some T ∧ Q (.bl (T == "int" || T == "bool")) H) (tCons te (tCons (tC (.ty "int")) tNil))) :=
  pe_callB call_isInt hg N.isin boot_isinstance (pa_cons he (pa_cons (pe_bltn hg2 N.tint boot_int rfl) pa_nil) hs1) (he := hs1) (hpl := hpl)
theorem pe_isBool {X : Cx} {e : Expr} {te : TE} {p p2 pos : Pos} (N : Nm X.mg) (he : PE X e te) (hg : Gl X "isinstance" := by rfl) (hg2 : Gl X "bool" := by rfl)
    (hs1 : starEach [e, .Name "bool" p2] X.env = (false, eval e X.env) :: starEach [.Name "bool" p2] X.env := by rfl) (hpl : (backTo pos (starEach [.Name "bool" p2] X.env)).any (·.1) = false := by rfl) :
    PE X (.Call (.Name "isinstance" p) [e, .Name "bool" p2] [] pos) (tCB (fun xs H Q => ∃ x T, xs = [x, .ty "bool"] ∧ tyn H x = some T ∧ Q (.bl (T == "bool")) H) (tCons te (tCons (tC (.ty "bool")) tNil))) :=
  pe_callB call_isBool hg N.isin boot_isinstance (pa_cons he (pa_cons (pe_bltn hg2 N.tbool boot_bool rfl) pa_nil) hs1) (he := hs1) (hpl := hpl)

/-! ### 3. promises -/
def spWhole : Sp := fun vs H Q _ => ∃ v, vs = [v] ∧ Kn H v ∧ Q (.bl (isI v)) H
def spWithin : Sp := fun vs H Q _ => ∃ v lo hi, vs = [v, .int lo, .int hi] ∧ Kn H v ∧ Q (.bl (inI v lo hi)) H
end HN

/-! tables, as data. -/
namespace HN
open PySem L2 PyProof.Rows
/-- a span as data -/
structure Sn where
  s : Int
  g : Int
  l : Int
  o : Int
  w : Int
abbrev Sn.row (x : Sn) : List Int := [x.s, x.g, x.l, x.o, x.w]
abbrev netP (b m : Int) (sp : List Sn) : Dt := .tup [.int b, .int m, .tup (sp.map fun x => .tup (x.row.map Dt.int))]
theorem netP_of {H : Hp} {v : V} {b m : Int} {sp : List Sn} (h : IsD H v (netP b m sp)) : ∃ t p ys, v = .ref t ∧ H t = some (.tup [.int b, .int m, .ref p]) ∧ H p = some (.tup ys) ∧ ys.length = sp.length ∧ ∀ (i : Nat) (x : Sn), sp[i]? = some x → ∃ q, ys[i]? = some (.ref q) ∧ H q = some (.tup [.int x.s, .int x.g, .int x.l, .int x.o, .int x.w]) := by
  obtain ⟨t, xs, rfl, ht, rx⟩ := h.tup_of
  cases rx with
  | cons h0 r0 =>
    cases r0 with
    | cons h1 r1 =>
      cases r1 with
      | cons h2 r2 =>
        cases r2
        cases h0
        cases h1
        obtain ⟨p, ys, rfl, hp, ry⟩ := h2.tup_of
        refine ⟨t, p, ys, rfl, ht, hp, by rw [ry.length, List.length_map], fun i x hx => ?_⟩
        obtain ⟨y, hy, dy⟩ := ry.at (i := i) (d := .tup (x.row.map Dt.int)) (by rw [List.getElem?_map, hx]; rfl)
        obtain ⟨q, zs, rfl, hq, rz⟩ := dy.tup_of
        have ez := rz.ints_of
        subst ez
        exact ⟨q, hy, hq⟩
def tm (ts : List Int) (i : Int) : Int := ts.getD i.toNat 0
def waitM (b : Int) (ts : List Int) (x : Sn) : Int := (tm ts x.g - tm ts x.s - x.l) % b
def brk (b : Int) (ts : List Int) (x : Sn) : Bool := decide (x.o - x.l < waitM b ts x)
def movedL (b k : Int) (ns : List Int) : List Int := ns.map fun n => (n + k) % b
theorem small_le {n : Nat} (h : n ≤ 1000) : n ≤ sizeLine := Nat.le_trans h (by decide)
structure Nt (mg : Str → Option Value) : Prop where
  range : mg "range" = none
  enum : mg "enumerate" = none
  zip : mg "zip" = none
  sum : mg "sum" = none
  tlist : mg "list" = none
  max : mg "max" = none
/-- a drawn span, a drawn net -/
structure SnOk (b m : Int) (x : Sn) : Prop where
  s0 : 0 ≤ x.s
  s1 : x.s < m
  g0 : 0 ≤ x.g
  g1 : x.g < m
  ne : x.s ≠ x.g
  l0 : 0 ≤ x.l
  lo : x.l ≤ x.o
  ob : x.o < x.l + b
  o60 : x.o < 10 ^ 60
  w0 : 0 ≤ x.w
  w1 : x.w ≤ 1000000000000
structure NetT (b m : Int) (sp : List Sn) : Prop where
  b1 : 1 ≤ b
  b2 : b ≤ 10 ^ 59
  m1 : 1 ≤ m
  m2 : m ≤ 16
  few : sp.length ≤ 40
  all : ∀ x ∈ sp, SnOk b m x
/-! ### tables moved -/
/-! ### promises -/
def spRest : Sp := fun vs H Q _ => ∃ b n, vs = [.int b, .int n] ∧ 0 < b ∧ Q (.int (n % b)) H
end HN

/-! drawing out of a box: the promises. -/
namespace HN
open PySem L2 PyProof.Rows
/-- the box at p turns, all else stands -/
def Mb (p : Addr) (H H' : Hp) : Prop := (∀ b o, b ≠ p → H b = some o → H' b = some o) ∧ ∃ x y, H' p = some (.lst [.int x, .int y])
theorem Mb.box {p : Addr} {H H' : Hp} (a : Mb p H H') : H' p = some (.lst [.int a.2.choose, .int a.2.choose_spec.choose]) := a.2.choose_spec.choose_spec
theorem Mb.refl {p : Addr} {H : Hp} {x y : Int} (h : H p = some (.lst [.int x, .int y])) : Mb p H H := ⟨fun _ _ _ e => e, x, y, h⟩
theorem Mb.trans {p : Addr} {H H1 H2 : Hp} (a : Mb p H H1) (b : Mb p H1 H2) : Mb p H H2 := ⟨fun c o hc e => b.1 c o hc (a.1 c o hc e), b.2⟩
theorem Mb.then {p : Addr} {H H1 H2 : Hp} (a : Mb p H H1) (e : Same H1 H2) : Mb p H H2 := ⟨fun c o hc q => e _ _ (a.1 c o hc q), let ⟨x, y, h⟩ := a.2; ⟨x, y, e _ _ h⟩⟩
theorem Mb.at {p q : Addr} {H H1 : Hp} {o : HO} (a : Mb p H H1) (h : H q = some o) (hne : q ≠ p) : H1 q = some o := a.1 q o hne h
theorem Same.mb {p : Addr} {H H1 H2 : Hp} (e : Same H H1) (hp : H p = none) (m : Mb p H1 H2) : Same H H2 := fun b o q => m.1 b o (fun z => by rw [z, hp] at q; cases q) (e b o q)
def spCell (K : PySem.W.Frag) : Sp := fun vs H Q _ => ∃ (a : Addr) (ns : List Int) (k : Int), vs = [.ref a, .int k] ∧ SqL K H a (ns.map V.int) ∧ 0 ≤ k ∧ ∀ c : Int, Q (.int c) H
def spBox (K : PySem.W.Frag) : Sp := fun vs H Q _ => ∃ (a : Addr) (ns : List Int) (k : Int), vs = [.ref a, .int k] ∧ SqL K H a (ns.map V.int) ∧ 0 ≤ k ∧ ∀ x y p, H p = none → Q (.ref p) (upd H p (.lst [.int x, .int y]))
def spDraw : Sp := fun vs H Q _ => ∃ p x y m, vs = [.ref p, .int m] ∧ H p = some (.lst [.int x, .int y]) ∧ 0 < m ∧ m < 10 ^ 61 ∧ ∀ r H', 0 ≤ r → r < m → Mb p H H' → Q (.int r) H'
def spBeat : Sp := fun vs H Q _ => ∃ p x y m, vs = [.ref p, .int m] ∧ H p = some (.lst [.int x, .int y]) ∧ 0 < m ∧ m ≤ 100 ∧ ∀ b H', 1 ≤ b → b ≤ 10 ^ 33 → Mb p H H' → Q (.int b) H'
def spSpanB : Sp := fun vs H Q _ => ∃ p x y b m, vs = [.ref p, .int b, .int m] ∧ H p = some (.lst [.int x, .int y]) ∧ 1 ≤ b ∧ b ≤ 10 ^ 33 ∧ 2 ≤ m ∧ m ≤ 16 ∧
  ∀ t (z : Sn) H', Mb p H H' → H' t = some (.tup [.int z.s, .int z.g, .int z.l, .int z.o, .int z.w]) → SnOk b m z → Q (.ref t) H'
def spNetB : Sp := fun vs H Q _ => ∃ p x y k, vs = [.ref p, .int k] ∧ H p = some (.lst [.int x, .int y]) ∧ 0 ≤ k ∧ k ≤ 40 ∧ ∀ t b m sp H', Mb p H H' → IsD H' (.ref t) (netP b m sp) → NetT b m sp → b ≤ 10 ^ 33 → 2 ≤ m → Q (.ref t) H'
/-- data of spans stand while the box turns -/
theorem boxed {p : Addr} {H H' : Hp} {x y : Int} {sp : List Sn} : ∀ {zs : List V}, IsDs H zs (sp.map fun z => .tup (z.row.map Dt.int)) → Mb p H H' → H p = some (.lst [.int x, .int y]) → IsDs H' zs (sp.map fun z => .tup (z.row.map Dt.int)) := by
  induction sp with
  | nil => intro zs h _ _; cases h; exact .nil
  | cons z r ih =>
    intro zs h M hp
    cases h with
    | cons h1 h2 =>
      refine .cons ?_ (ih h2 M hp)
      obtain ⟨q, ws, rfl, hq, rw'⟩ := h1.tup_of
      have e := rw'.ints_of
      subst e
      exact .tup (M.1 q _ (ne_of hq hp (by intro z; cases z)) hq) (IsDs.ints _)
theorem atI_in {α : Type} {xs : List α} {r : Int} (h0 : 0 ≤ r) (h1 : r < xs.length) : ∃ v, atI xs r = some v ∧ v ∈ xs := by
  obtain ⟨j, rfl⟩ := Int.eq_ofNat_of_zero_le h0
  have hj : j < xs.length := by omega
  exact ⟨xs[j], atI_nat (List.getElem?_eq_getElem hj), List.getElem_mem hj⟩
theorem log_ok {m : Int} (h0 : 0 < m) (h : m < 10 ^ 61) : 0 < m ∧ m.natAbs.log2 < 9000 := by
  refine ⟨h0, ?_⟩
  have h1 : m.natAbs < 2 ^ 300 := by
    have : (10 : Nat) ^ 61 < 2 ^ 300 := by decide +kernel
    have h2 : m.natAbs < 10 ^ 61 := by omega
    exact Nat.lt_trans h2 this
  have h3 : m.natAbs ≠ 0 := by omega
  have := (Nat.log2_lt h3).mpr h1
  omega
theorem goal_ok {s t m : Int} (h0 : 0 ≤ s) (h1 : s < m) (h2 : 0 ≤ t) (h3 : t < m - 1) : 0 ≤ (s + 1 + t) % m ∧ (s + 1 + t) % m < m ∧ s ≠ (s + 1 + t) % m := by
  have hm : 0 < m := by omega
  have a := Int.emod_nonneg (s + 1 + t) (by omega : m ≠ 0)
  have b := Int.emod_lt_of_pos (s + 1 + t) hm
  refine ⟨a, b, ?_⟩
  by_cases q : s + 1 + t < m
  · rw [Int.emod_eq_of_lt (by omega) q]; omega
  · have e : (s + 1 + t) % m = (s + 1 + t - m) % m := (Int.sub_emod_right _ _).symm
    rw [e, Int.emod_eq_of_lt (by omega) (by omega)]; omega
end HN

/-! ways and rings, as data. -/
namespace HN
open PySem L2 PyProof.Rows
/-- a tuple of tuples of whole numbers -/
abbrev rowsP {α : Type} (f : α → List Int) (xs : List α) : Dt := .tup (xs.map fun x => .tup ((f x).map Dt.int))
theorem rows_at {α : Type} {f : α → List Int} {H : Hp} {xs : List α} {ys : List V} (r : IsDs H ys (xs.map fun x => .tup ((f x).map Dt.int))) {i : Nat} {x : α} (hx : xs[i]? = some x) : ∃ q, ys[i]? = some (.ref q) ∧ H q = some (.tup ((f x).map V.int)) := by
  obtain ⟨y, hy, dy⟩ := r.at (i := i) (d := .tup ((f x).map Dt.int)) (by rw [List.getElem?_map, hx]; rfl)
  obtain ⟨q, zs, rfl, hq, rz⟩ := dy.tup_of
  have ez := rz.ints_of
  subst ez
  exact ⟨q, hy, hq⟩
theorem rows_of {α : Type} {f : α → List Int} {H : Hp} {v : V} {xs : List α} (h : IsD H v (rowsP f xs)) : ∃ p ys, v = .ref p ∧ H p = some (.tup ys) ∧ ys.length = xs.length ∧ IsDs H ys (xs.map fun x => .tup ((f x).map Dt.int)) := by
  obtain ⟨p, ys, rfl, hp, ry⟩ := h.tup_of
  exact ⟨p, ys, rfl, hp, by rw [ry.length, List.length_map], ry⟩
/-- a step: a span's number, and which way -/
structure Stp where
  i : Nat
  d : Int
abbrev Stp.row (s : Stp) : List Int := [(s.i : Int), s.d]
abbrev wayP (ws : List Stp) : Dt := rowsP Stp.row ws
abbrev bndR (p : Int × Int) : List Int := [p.1, p.2]
abbrev bndP (bs : List (Int × Int)) : Dt := rowsP bndR bs
def frm (x : Sn) (d : Int) : Int := if d = 1 then x.s else x.g
def too (x : Sn) (d : Int) : Int := if d = 1 then x.g else x.s
def WayIn (n : Nat) (ws : List Stp) : Prop := ∀ s ∈ ws, s.i < n ∧ (s.d = 1 ∨ s.d = -1)
def frmS (sp : List Sn) (s : Stp) : Int := match sp[s.i]? with | some x => frm x s.d | none => 0
def tooS (sp : List Sn) (s : Stp) : Int := match sp[s.i]? with | some x => too x s.d | none => 0
def lowS (bs : List (Int × Int)) (s : Stp) : Int := match bs[s.i]? with | some p => if s.d = 1 then p.1 else -p.2 | none => 0
def highS (bs : List (Int × Int)) (s : Stp) : Int := match bs[s.i]? with | some p => if s.d = 1 then p.2 else -p.1 | none => 0
def sumLo (bs : List (Int × Int)) (ws : List Stp) : Int := (ws.map (lowS bs)).sum
def sumHi (bs : List (Int × Int)) (ws : List Stp) : Int := (ws.map (highS bs)).sum
theorem atI_last {α : Type} {xs : List α} {x : α} (h : xs[xs.length - 1]? = some x) : atI xs (-1) = some x := by
  have hl : xs.length - 1 < xs.length := (List.getElem?_eq_some_iff.mp h).1
  unfold atI ixN
  rw [if_neg (by decide), if_pos (by omega)]
  show xs[(-1 + (xs.length : Int)).toNat]? = some x
  rw [show (-1 + (xs.length : Int)).toNat = xs.length - 1 by omega]
  exact h
def spFrom : Sp := fun vs H Q _ => ∃ (v : V) (q : Addr) (b m : Int) (sp : List Sn) (s : Stp) (x : Sn), vs = [v, .ref q] ∧ IsD H v (netP b m sp) ∧ H q = some (.tup (s.row.map V.int)) ∧ sp[s.i]? = some x ∧ Q (.int (frm x s.d)) H
def spTo : Sp := fun vs H Q _ => ∃ (v : V) (q : Addr) (b m : Int) (sp : List Sn) (s : Stp) (x : Sn), vs = [v, .ref q] ∧ IsD H v (netP b m sp) ∧ H q = some (.tup (s.row.map V.int)) ∧ sp[s.i]? = some x ∧ Q (.int (too x s.d)) H
def spEndsO : Sp := fun vs H Q _ => ∃ (v u : V) (b m : Int) (sp : List Sn) (ws : List Stp) (s1 s2 : Stp), vs = [v, u] ∧ IsD H v (netP b m sp) ∧ IsD H u (wayP ws) ∧ WayIn sp.length ws ∧ ws[0]? = some s1 ∧ ws[ws.length - 1]? = some s2 ∧ ∀ p H', Same H H' → H' p = some (.tup [.int (frmS sp s1), .int (tooS sp s2)]) → Q (.ref p) H'
def spFirst : Sp := fun vs H Q _ => ∃ (v : V) (b m : Int) (sp : List Sn), vs = [v] ∧ IsD H v (netP b m sp) ∧ sp.length ≤ 1000 ∧ ∀ u H', Same H H' → IsD H' u (bndP (sp.map fun x => (x.l, x.o))) → Q u H'
def spSum : Sp := fun vs H Q _ => ∃ (vb vw : V) (bs : List (Int × Int)) (ws : List Stp), vs = [vb, vw] ∧ IsD H vb (bndP bs) ∧ IsD H vw (wayP ws) ∧ WayIn bs.length ws ∧ ∀ p H', Same H H' → H' p = some (.tup [.int (sumLo bs ws), .int (sumHi bs ws)]) → Q (.ref p) H'
end HN

/-! walking: the promises. -/
namespace HN
open PySem L2 PyProof.Rows
/-- a value that is a step, a value that is a pair -/
def StepV (n : Nat) (H : Hp) (v : V) : Prop := ∃ (q : Addr) (s : Stp), v = .ref q ∧ H q = some (.tup (s.row.map V.int)) ∧ s.i < n ∧ (s.d = 1 ∨ s.d = -1)
def PairV (H : Hp) (v : V) : Prop := ∃ (q : Addr) (a b : Int), v = .ref q ∧ H q = some (.tup [.int a, .int b])
theorem StepV.same {n : Nat} {H H' : Hp} {v : V} (e : Same H H') (h : StepV n H v) : StepV n H' v := let ⟨q, s, a, b, c⟩ := h; ⟨q, s, a, e _ _ b, c⟩
/-- but for what is a list -/
theorem StepV.but {n : Nat} {H H' : Hp} {v : V} {p : Addr} {xs : List V} (hp : H p = some (.lst xs)) (e : ∀ b o, b ≠ p → H b = some o → H' b = some o) (h : StepV n H v) : StepV n H' v := by
  obtain ⟨q, s, a, b, c⟩ := h
  exact ⟨q, s, a, e _ _ (ne_of b hp (by intro z; cases z)) b, c⟩
theorem steps_data {n : Nat} {H : Hp} : ∀ (vs : List V), (∀ v ∈ vs, StepV n H v) → ∃ ws : List Stp, IsDs H vs (ws.map fun x => .tup (x.row.map Dt.int)) ∧ WayIn n ws ∧ ws.length = vs.length
  | [], _ => ⟨[], .nil, fun _ h => absurd h (by simp), rfl⟩
  | v :: vs, h => by
    obtain ⟨ws, h1, h2, h3⟩ := steps_data vs fun u hu => h u (List.mem_cons_of_mem _ hu)
    obtain ⟨q, s, rfl, hq, hs⟩ := h v (by simp)
    refine ⟨s :: ws, .cons (.tup hq (IsDs.ints s.row)) h1, fun t ht => ?_, by rw [List.length_cons, List.length_cons, h3]⟩
    rcases List.mem_cons.mp ht with rfl | ht
    · exact hs
    · exact h2 t ht
def spLeads : Sp := fun vs H Q _ => ∃ (v : V) (q : Addr) (b m : Int) (sp : List Sn) (s : Stp) (x : Sn), vs = [v, .ref q] ∧ IsD H v (netP b m sp) ∧ H q = some (.tup (s.row.map V.int)) ∧ sp[s.i]? = some x ∧ (s.d = 1 ∨ s.d = -1) ∧ ∀ p H', Same H H' → H' p = some (.tup [.int (frm x s.d), .int (too x s.d)]) → Q (.ref p) H'
def spWalk : Sp := fun vs H Q _ => ∃ (p : Addr) (x y : Int) (v : V) (b m : Int) (sp : List Sn) (k : Int), vs = [.ref p, v, .int k] ∧ H p = some (.lst [.int x, .int y]) ∧ IsD H v (netP b m sp) ∧ NetT b m sp ∧ 0 ≤ k ∧ k ≤ 100 ∧ (∀ H', Mb p H H' → IsD H' v (netP b m sp)) ∧
  ∀ u ws H', Mb p H H' → IsD H' u (wayP ws) → WayIn sp.length ws → (ws.length : Int) ≤ k → Q u H'
theorem netP_mb {p : Addr} {H H' : Hp} {x y : Int} {v : V} {b m : Int} {sp : List Sn} (h : IsD H v (netP b m sp)) (hp : H p = some (.lst [.int x, .int y])) (M : Mb p H H') : IsD H' v (netP b m sp) := by
  obtain ⟨t, xs, rfl, ht, rx⟩ := h.tup_of
  cases rx with
  | cons h0 r0 =>
    cases r0 with
    | cons h1 r1 =>
      cases r1 with
      | cons h2 r2 =>
        cases r2
        cases h0
        cases h1
        obtain ⟨q, ys, rfl, hq, ry⟩ := h2.tup_of
        exact .tup (M.1 t _ (ne_of ht hp (by intro z; cases z)) ht) (.cons (.int b) (.cons (.int m) (.cons (.tup (M.1 q _ (ne_of hq hp (by intro z; cases z)) hq) (boxed ry M hp)) .nil)))
end HN

/-! ways gone back. -/
namespace HN
open PySem L2 PyProof.Rows
abbrev rowsD {α : Type} (f : α → List Int) (xs : List α) : List Dt := xs.map fun x => .tup ((f x).map Dt.int)
theorem pls_rows {α : Type} (f : α → List Int) : ∀ xs : List α, pls (rowsD f xs) = true
  | [] => by unfold pls; rfl
  | x :: xs => by unfold rowsD; rw [List.map_cons]; unfold pls; rw [show pls (xs.map fun x => Dt.tup ((f x).map Dt.int)) = true from pls_rows f xs]; unfold pl; rw [pls_ints]; rfl
theorem deps_rows {α : Type} (f : α → List Int) : ∀ xs : List α, deps (rowsD f xs) ≤ 1
  | [] => by unfold deps; exact Nat.zero_le _
  | x :: xs => by unfold rowsD; rw [List.map_cons]; unfold deps; have := deps_rows f xs; unfold rowsD at this; unfold dep; rw [deps_ints]; omega
end HN

/-! what is a way, what is a ring: of any data. -/
namespace HN
open PySem L2 PyProof.Rows
def inD (d : Dt) (lo hi : Int) : Bool := match d with
  | .int i => decide (lo ≤ i) && decide (i ≤ hi)
  | _ => false
theorem inI_inD {H : Hp} {x : V} {d : Dt} (lo hi : Int) (h : IsD H x d) : inI x lo hi = inD d lo hi := by cases h <;> rfl
def stepD (n : Nat) : Dt → Option Stp
  | .tup [.int i, .int k] => if 0 ≤ i ∧ i ≤ (n : Int) - 1 ∧ (k = 1 ∨ k = -1) then some ⟨i.toNat, k⟩ else none
  | _ => none
def stepB (n : Nat) (d : Dt) : Bool := (stepD n d).isSome
theorem stepD_of {n : Nat} {d : Dt} {s : Stp} (h : stepD n d = some s) : d = .tup (s.row.map Dt.int) ∧ s.i < n ∧ (s.d = 1 ∨ s.d = -1) := by
  unfold stepD at h
  split at h
  · rename_i i k
    split at h
    · rename_i hc
      obtain ⟨h0, h1, h2⟩ := hc
      cases h
      refine ⟨?_, by show i.toNat < n; omega, h2⟩
      show Dt.tup [.int i, .int k] = .tup [.int ((i.toNat : Nat) : Int), .int k]
      rw [Int.toNat_of_nonneg h0]
    · cases h
  · cases h
theorem stepB_len {n : Nat} {ds : List Dt} (h : ds.length ≠ 2) : stepB n (.tup ds) = false := by
  unfold stepB
  cases q : stepD n (.tup ds) with
  | none => rfl
  | some s =>
    obtain ⟨e, _⟩ := stepD_of q
    injection e with e
    rw [e] at h
    exact absurd rfl h
theorem stepD_row {n : Nat} {s : Stp} (h : s.i < n ∧ (s.d = 1 ∨ s.d = -1)) : stepD n (.tup (s.row.map Dt.int)) = some s := by
  show (if 0 ≤ (s.i : Int) ∧ (s.i : Int) ≤ (n : Int) - 1 ∧ (s.d = 1 ∨ s.d = -1) then some (⟨((s.i : Nat) : Int).toNat, s.d⟩ : Stp) else none) = some s
  rw [if_pos ⟨by omega, by omega, h.2⟩, Int.toNat_natCast]
theorem all_steps {n : Nat} : ∀ (ds : List Dt), ds.all (stepB n) = true → ∃ ss : List Stp, ds = rowsD Stp.row ss ∧ WayIn n ss
  | [], _ => ⟨[], rfl, fun _ h => absurd h (by simp)⟩
  | d :: ds, h => by
    rw [List.all_cons, Bool.and_eq_true] at h
    obtain ⟨ss, e, hs⟩ := all_steps ds h.2
    cases q : stepD n d with
    | none => unfold stepB at h; rw [q] at h; exact absurd h.1 (by decide)
    | some s =>
      obtain ⟨e1, e2⟩ := stepD_of q
      refine ⟨s :: ss, by rw [e1, e]; rfl, fun t ht => ?_⟩
      rcases List.mem_cons.mp ht with rfl | ht
      · exact e2
      · exact hs t ht
theorem rows_steps {n : Nat} : ∀ (ss : List Stp), WayIn n ss → (rowsD Stp.row ss).filterMap (stepD n) = ss ∧ (rowsD Stp.row ss).all (stepB n) = true
  | [], _ => ⟨rfl, rfl⟩
  | s :: ss, h => by
    obtain ⟨h1, h2⟩ := rows_steps ss fun t ht => h t (List.mem_cons_of_mem _ ht)
    have e := stepD_row (h s (by simp))
    unfold rowsD at h1 h2 ⊢
    rw [List.map_cons, List.filterMap_cons, e, List.all_cons]
    refine ⟨by rw [h1], ?_⟩
    rw [h2]
    unfold stepB
    rw [e]; rfl
def zipB (sp : List Sn) (ss : List Stp) : Bool := (ss.zip ss.tail).all fun p => decide (tooS sp p.1 = frmS sp p.2)
def wayB (sp : List Sn) (d : Dt) : Bool := match d with
  | .tup ds => !ds.isEmpty && (ds.all (stepB sp.length) && zipB sp (ds.filterMap (stepD sp.length)))
  | _ => false
def fstB (sp : List Sn) (ss : List Stp) : Int := match ss[0]? with | some s => frmS sp s | none => 0
def lstB (sp : List Sn) (ss : List Stp) : Int := match ss[ss.length - 1]? with | some s => tooS sp s | none => 0
def numsS (ss : List Stp) : List Int := ss.map fun s => (s.i : Int)
def ringOf (sp : List Sn) (ss : List Stp) : Bool := decide (2 ≤ ss.length) && (decide ((metL (numsS ss)).length = ss.length) && decide (fstB sp ss = lstB sp ss))
def ringB (sp : List Sn) (d : Dt) : Bool := match d with
  | .tup ds => wayB sp (.tup ds) && ringOf sp (ds.filterMap (stepD sp.length))
  | _ => false
/-- by going along -/
def wayFrom (sp : List Sn) : Option Int → List Dt → Bool
  | _, [] => true
  | h, d :: ds => match stepD sp.length d with
    | none => false
    | some s => (match h with | none => true | some x => decide (frmS sp s = x)) && wayFrom sp (some (tooS sp s)) ds
theorem wayFrom_no {sp : List Sn} : ∀ (ds : List Dt) (h : Option Int), ds.all (stepB sp.length) = false → wayFrom sp h ds = false
  | [], _, h => by cases h
  | d :: ds, o, h => by
    unfold wayFrom
    cases q : stepD sp.length d with
    | none => rfl
    | some s =>
      have h2 : ds.all (stepB sp.length) = false := by
        rw [List.all_cons] at h
        unfold stepB at h ⊢
        rw [q] at h
        exact h
      show (_ && wayFrom sp (some (tooS sp s)) ds) = false
      rw [wayFrom_no ds _ h2, Bool.and_false]
theorem wayFrom_zip {sp : List Sn} : ∀ (ss : List Stp) (s : Stp), WayIn sp.length ss → wayFrom sp (some (tooS sp s)) (rowsD Stp.row ss) = zipB sp (s :: ss)
  | [], _, _ => rfl
  | t :: ss, s, h => by
    have e := stepD_row (h t (by simp))
    have ih := wayFrom_zip ss t fun u hu => h u (List.mem_cons_of_mem _ hu)
    unfold rowsD at ih ⊢
    rw [List.map_cons]
    unfold wayFrom
    rw [e]
    show (decide (frmS sp t = tooS sp s) && wayFrom sp (some (tooS sp t)) (ss.map fun x => .tup (x.row.map Dt.int))) = zipB sp (s :: t :: ss)
    rw [ih]
    show _ = (decide (tooS sp s = frmS sp t) && zipB sp (t :: ss))
    congr 1
    exact decide_eq_decide.mpr ⟨Eq.symm, Eq.symm⟩
theorem wayB_from {sp : List Sn} {ds : List Dt} (hne : ds ≠ []) : wayB sp (.tup ds) = wayFrom sp none ds := by
  show (!ds.isEmpty && (ds.all (stepB sp.length) && zipB sp (ds.filterMap (stepD sp.length)))) = _
  have e0 : ds.isEmpty = false := by cases ds with
    | nil => exact absurd rfl hne
    | cons _ _ => rfl
  rw [e0]
  cases q : ds.all (stepB sp.length) with
  | false => rw [wayFrom_no ds none q]; rfl
  | true =>
    obtain ⟨ss, rfl, hs⟩ := all_steps ds q
    rw [(rows_steps ss hs).1]
    cases ss with
    | nil => exact absurd rfl hne
    | cons s ss =>
      have hs' : WayIn sp.length ss := fun t ht => hs t (List.mem_cons_of_mem _ ht)
      show zipB sp (s :: ss) = _
      rw [← wayFrom_zip ss s hs']
      unfold rowsD
      rw [List.map_cons]
      show _ = wayFrom sp none (.tup (s.row.map Dt.int) :: _)
      unfold wayFrom
      rw [stepD_row (hs s (by simp))]
      cases ss <;> rfl
/-! ### promises -/
abbrev Fine (d : Dt) : Prop := ∀ ds, d = .tup ds → ds.length ≤ 1000 ∧ ∀ e ∈ ds, ∀ x y, e = .tup [x, .int y] → y.natAbs < 10 ^ 400
def spStep : Sp := fun vs H Q _ => ∃ (v u : V) (b m : Int) (sp : List Sn) (d : Dt), vs = [v, u] ∧ IsD H v (netP b m sp) ∧ IsD H u d ∧ Q (.bl (stepB sp.length d)) H
def spWayP : Sp := fun vs H Q _ => ∃ (v u : V) (b m : Int) (sp : List Sn) (d : Dt), vs = [v, u] ∧ IsD H v (netP b m sp) ∧ IsD H u d ∧ Fine d ∧ ∀ H', Same H H' → Q (.bl (wayB sp d)) H'
end HN

/-! beats of rings: the promises. -/
namespace HN
open PySem L2 PyProof.Rows
/-- all tuples stand -/
def TupK (H H' : Hp) : Prop := ∀ q xs, H q = some (.tup xs) → H' q = some (.tup xs)
theorem TupK.trans {H H1 H2 : Hp} (a : TupK H H1) (b : TupK H1 H2) : TupK H H2 := fun q xs h => b q xs (a q xs h)
theorem Mb.tupK {p : Addr} {H H' : Hp} {xs : List V} (hp : H p = some (.lst xs)) (M : Mb p H H') : TupK H H' := fun q ys h => M.1 q _ (ne_of h hp (by intro z; cases z)) h
theorem tupK_upd {H : Hp} {p : Addr} {xs : List V} {o : HO} (hp : H p = some (.lst xs)) : TupK H (upd H p o) := fun q ys h => by rw [upd_ne (ne_of h hp (by intro z; cases z))]; exact h
theorem rows_keep {α : Type} {f : α → List Int} {H H' : Hp} (e : TupK H H') : ∀ {xs : List α} {zs : List V}, IsDs H zs (rowsD f xs) → IsDs H' zs (rowsD f xs)
  | [], _, h => by cases h; exact .nil
  | x :: xs, zs, h => by
    unfold rowsD at h ⊢
    rw [List.map_cons] at h ⊢
    cases h with
    | cons h1 h2 =>
      obtain ⟨q, ws, rfl, hq, rw'⟩ := h1.tup_of
      have e2 := rw'.ints_of
      subst e2
      exact .cons (.tup (e q _ hq) (IsDs.ints _)) (rows_keep e h2)
def PairW (H : Hp) (v : V) : Prop := ∃ (q : Addr) (a b : Int), v = .ref q ∧ H q = some (.tup [.int a, .int b]) ∧ 0 ≤ a ∧ a ≤ b ∧ b < 10 ^ 60
/-- a round: its steps lead through the happenings hs -/
def Rounds (hs : List Int) (n : Nat) (sp : List Sn) (ws : List Stp) : Prop := ∀ i, i < n → ∃ d x, ws[i]? = some ⟨i, d⟩ ∧ sp[i]? = some x ∧ (d = 1 ∨ d = -1) ∧ some (frm x d) = hs[i]? ∧ some (too x d) = hs[(i + 1) % hs.length]?
end HN

/-! how many unlike numbers a list has. -/
namespace HN
open PySem L2 PyProof.Rows
end HN

/-! nets that are pinned. -/
namespace HN
open PySem L2 PyProof.Rows
def TabsAt (H : Hp) (n : Nat) (us : List V) : Prop := ∀ u ∈ us, ∃ (q : Addr) (ts : List Int), u = .ref q ∧ H q = some (.tup (ts.map V.int)) ∧ ts.length = n
end HN

/-! a way told as one span: the mathematics. -/
namespace HN
open PySem L2 PyProof.Rows
def bnds (sp : List Sn) : List (Int × Int) := sp.map fun x => (x.l, x.o)
theorem bnds_at {sp : List Sn} {i : Nat} (h : i < sp.length) : (bnds sp)[i]? = some (sp[i].l, sp[i].o) := by
  unfold bnds
  rw [List.getElem?_map, List.getElem?_eq_getElem h]; rfl
def overS (b : Int) (sp : List Sn) (ws : List Stp) : Sn := ⟨fstB sp ws, lstB sp ws, sumLo (bnds sp) ws % b, sumLo (bnds sp) ws % b + (sumHi (bnds sp) ws - sumLo (bnds sp) ws), 0⟩
end HN
namespace HN
open PySem L2 PyProof.Rows
end HN
namespace HN
open PySem L2 PyProof.Rows
theorem way_split {sp : List Sn} {ws : List Stp} (hin : WayIn sp.length ws) (h : wayB sp (wayP ws) = true) : ws ≠ [] ∧ zipB sp ws = true := by
  have h : (!(rowsD Stp.row ws).isEmpty && ((rowsD Stp.row ws).all (stepB sp.length) && zipB sp ((rowsD Stp.row ws).filterMap (stepD sp.length)))) = true := h
  obtain ⟨e1, e2⟩ := rows_steps ws hin
  rw [e1, e2, Bool.true_and, Bool.and_eq_true] at h
  refine ⟨fun z => ?_, h.2⟩
  rw [z] at h
  exact Bool.noConfusion h.1
end HN

/-! spans put behind a net's own: the promise. -/
namespace HN
open PySem L2 PyProof.Rows
theorem netP_rows {H : Hp} {v : V} {b m : Int} {sp : List Sn} (h : IsD H v (netP b m sp)) : ∃ t p ys, v = .ref t ∧ H t = some (.tup [.int b, .int m, .ref p]) ∧ H p = some (.tup ys) ∧ IsDs H ys (rowsD Sn.row sp) := by
  obtain ⟨t, xs, rfl, ht, rx⟩ := h.tup_of
  cases rx with
  | cons h0 r0 =>
    cases r0 with
    | cons h1 r1 =>
      cases r1 with
      | cons h2 r2 =>
        cases r2
        cases h0
        cases h1
        obtain ⟨p, ys, rfl, hp, ry⟩ := h2.tup_of
        exact ⟨t, p, ys, rfl, ht, hp, ry⟩
end HN

/-! TooGreat: its fields, the promises of what raises it. -/
namespace HN
open PySem L2 PyProof.Rows
/-- the fields of a TooGreat -/
def tgF (a b : Int) : List (Str × V) := putF "most" (.int b) [("many", .int a)]
theorem tgF_many {a b : Int} : (tgF a b).lookup ("many" : Str) = some (V.int a) := by unfold tgF; rw [lookup_putF]; rfl
theorem tgF_most {a b : Int} : (tgF a b).lookup ("most" : Str) = some (V.int b) := by unfold tgF; rw [lookup_putF]; rfl
/-- a TooGreat with these fields may be raised -/
def XE (C : Addr) (a b : Int) (E : XK) (H : Hp) : Prop := ∀ D H', Same H H' → H' D = some (XD D (tgF a b)) → E (.ref C) (some D) H'
theorem XE.same {C : Addr} {a b : Int} {E : XK} {H H' : Hp} (h : XE C a b E H) (S : Same H H') : XE C a b E H' := fun D H2 S2 e => h D H2 (S.trans S2) e
def clsDef (s : Stmt) (i : Nat) : Stmt := match s with
  | .ClassDef _ _ _ body _ _ _ _ _ _ _ => body.getD i (.Pass ⟨0, 0, 0, 0⟩)
  | s => s
def spInitTG (C : Addr) : Sp := fun vs H Q _ => ∃ (x : Addr) (a b : Int), vs = [.ref x, .int a, .int b] ∧ H x = some (XN x C none) ∧ ∀ D, H D = none → D ≠ x → Q .non (upd (upd H x (XN x C (some D))) D (XD D (tgF a b)))
def spWithX (C : Addr) : Sp := fun vs H Q E => ∃ (v : V) (L : Addr) (b m : Int) (sp more : List Sn) (zs : List V), vs = [v, .ref L] ∧ IsD H v (netP b m sp) ∧ H L = some (.lst zs) ∧ IsDs H zs (rowsD Sn.row more) ∧ sp.length + more.length ≤ 1000 ∧
  (40 < sp.length + more.length → XE C (sp.length + more.length : Nat) 40 E H) ∧ (sp.length + more.length ≤ 40 → ∀ u H', Same H H' → IsD H' u (netP b m (sp ++ more)) → Q u H')
/-- all that is known of the class TooGreat and of its __init__ -/
structure TGc (K : PySem.W.Frag) (mg : Str → Option Value) (C P f : Addr) : Prop where
  mke : XMk K C P f
  up : UpCls K P
  cl : XCls K C
  na1 : NoAttr K C "many"
  na2 : NoAttr K C "most"
  mgC : mg "TooGreat" = some (.ref C)
  mgP : mg "HourError" = some (.ref P)
end HN

namespace HN
open PySem L2 PyProof.Rows
def top (i : Nat) : Stmt := PySem.Challenge.pw_hourtable_k62_sums_of_spans.main.body.getD i (.Pass ⟨0, 0, 0, 0⟩)
end HN

/-! the __init__ of TooGreat. -/
namespace HN
open PySem L2 PyProof.Rows
abbrev cTooG : Stmt := top 7
abbrev sInitTG : Stmt := clsDef cTooG 0
section
variable {P : Program} {w : World} {K : PySem.W.Frag} {mg : Str → Option Value} {base : Heap}
theorem scInitTG : FnScope ["self", "many", "most"] ["self", "many", "most"] (defScope sInitTG) := ⟨rfl, rfl, rfl, by decide +kernel, rfl, by decide +kernel, by decide +kernel⟩
theorem ok_initTG {f C U : Addr} {fd : FuncData} (F : Fun K "__init__" "TooGreat.__init__" sInitTG f fd) (T : TGc K mg C U f) : FnOk P w K mg base CX0 1 f fd ["self", "many", "most"] (spInitTG C) := by
  refine F.ok scInitTG (fun vs H Q E h => by obtain ⟨x, a, b, rfl, _⟩ := h; rfl) (fun cdv A outer s H vs Q E hr h => ?_)
  obtain ⟨x, a, b, rfl, hx, k⟩ := h
  refine ⟨_, PSl.h (l_cons ⟨(ps_expr (pe_upInit T.up T.mke rfl T.mgP (pa_cons (pv 0) (pa_cons (pv 1) (pa_cons (pv 2) pa_nil)))))⟩
    (l_cons ⟨(ps_xset T.mke T.cl T.na1 (pv 0) (pv 1))⟩
    (l_one ⟨(ps_xset T.mke T.cl T.na2 (pv 0) (pv 2))⟩))), ?_⟩
  refine ⟨_, rfl, _, rfl, _, rfl, x, _, _, none, rfl, hx, ?_⟩
  refine ⟨_, rfl, _, rfl, x, rfl, .inl ⟨hx, fun D nD ne => ?_⟩⟩
  refine ⟨_, rfl, _, rfl, x, rfl, .inr ⟨D, _, by rw [upd_ne (Ne.symm ne)]; exact upd_same, upd_same, ne, by show 1 < 1000; decide, ?_⟩⟩
  rw [upd_upd]
  exact k D nD ne
end
end HN

/-! spans put behind a net's own, or TooGreat. -/
namespace HN
open PySem L2 PyProof.Rows
abbrev sWithSp : Stmt := top 14
section
variable {P : Program} {w : World} {K : PySem.W.Frag} {mg : Str → Option Value} {base : Heap}
theorem scWithSp : FnScope ["net", "more", "spans"] ["net", "more"] (defScope sWithSp) := ⟨rfl, rfl, rfl, by decide +kernel, rfl, by decide +kernel, by decide +kernel⟩
theorem pass00 {X : Cx} {E : XK} : Passes CX0 X E := fun _ _ _ _ _ _ _ h => h.elim
theorem ok_withX {f C U fi : Addr} {fd fdi : FuncData} (F : Fun K "with_spans" "with_spans" sWithSp f fd) (T : Nm mg) (CM : ∃ t, mg "MOST_SPANS" = some (.int 40 t)) (TG : TGc K mg C U fi) (FI : FnOk P w K mg base CX0 1 fi fdi ["self", "many", "most"] (spInitTG C)) (BI : Binds K fdi ["self", "many", "most"] []) :
    FnOk P w K mg base (CXN P w) 3 f fd ["net", "more"] (spWithX C) := by
  refine F.okX scWithSp (fun vs H Q E h => by obtain ⟨v, L, b, m, sp, more, zs, rfl, _⟩ := h; rfl) (fun cdv A outer s H vs Q E hr D h => ?_)
  obtain ⟨v, L, b, m, sp, more, zs, rfl, hv, hL, dz, few, kE, k⟩ := h
  obtain ⟨t, p, ys, rfl, ht, hp, dy⟩ := netP_rows hv
  have ly : ys.length = sp.length := by rw [dy.length]; unfold rowsD; rw [List.length_map]
  have lz : zs.length = more.length := by rw [dz.length]; unfold rowsD; rw [List.length_map]
  refine ⟨_, PSl.h (l_cons ⟨(ps_set (i := 2) scWithSp.nd rfl (Or.inl rfl) (pe_op (catN K) (pe_ix (ixNT K) (pv 0) pe_int (fun _ _ => rfl)) (pe_callTy (tupN K) rfl T.ttup boot_tuple (pa_cons (pv 1) pa_nil))))⟩
    (l_cons ⟨(ps_if (pt_cmpR op_gt (pe_callB (lenN K) rfl T.len PySem.boot_len (pa_cons (pv 2) pa_nil)) (pe_gint CM) (nomark _)) (pss_one (ps_raiseV D rfl TG.mke (pe_makeX (E := E0) TG.mke FI hr rfl TG.mgC BI .nil pass00 (by decide) (pa_cons (pe_callB (lenN K) rfl T.len PySem.boot_len (pa_cons (pv 2) pa_nil)) (pa_cons (pe_gint CM) pa_nil))))) pss_nil)⟩
    (l_one ⟨(ps_ret (pe_tupA (pa_cons (pe_ix (ixNT K) (pv 0) pe_int (fun _ _ => rfl)) (pa_cons (pe_ix (ixNT K) (pv 0) pe_int (fun _ _ => rfl)) (pa_cons (pv 2) pa_nil)))))⟩))), ?_⟩
  refine ⟨_, rfl, _, ⟨t, _, _, rfl, rfl, SqT.of ht, atI_nat (j := 2) rfl⟩, _, rfl, L, _, rfl, SqL.of hL, fun q1 H1 S1 h1 => ?_⟩
  refine ⟨p, q1, _, _, rfl, rfl, S1 _ _ hp, h1, Nat.le_trans (by omega : ys.length + zs.length ≤ 1000) (by decide), fun q2 H2 S2 h2 => ?_⟩
  have S12 := S1.trans S2
  have ht2 := S12 _ _ ht
  refine ⟨_, rfl, q2, _, rfl, .inr (SqT.of h2), _, rfl, ?_⟩
  have ll : (ys ++ zs).length = sp.length + more.length := by rw [List.length_append]; omega
  refine ite2 (fun hc => ?_) (fun hc => ?_)
  · have hc : 40 < sp.length + more.length := by have := of_decide_eq_true hc; rw [ll] at this; omega
    refine ⟨_, rfl, q2, _, rfl, .inr (SqT.of h2), fun y ny far => ⟨y, _, _, rfl, upd_same, fun d nd ne => ⟨rfl, y, some d, rfl, far, ?_, ?_⟩⟩⟩
    · rw [upd_ne (Ne.symm ne)]; exact upd_same
    · rw [upd_upd, dropH_two ny ne]
      rw [upd_ne ne] at nd
      rw [ll]
      exact kE hc d _ (S12.put nd) upd_same
  · have hc : sp.length + more.length ≤ 40 := by
      rcases Nat.lt_or_ge 40 (sp.length + more.length) with z | z
      · exact absurd (decide_eq_true (by rw [ll]; omega)) hc
      · exact z
    refine ⟨_, rfl, _, ⟨t, _, _, rfl, rfl, SqT.of ht2, atI_nat (j := 0) rfl⟩, _, rfl, _, ⟨t, _, _, rfl, rfl, SqT.of ht2, atI_nat (j := 1) rfl⟩, _, rfl, (by show 3 ≤ sizeLine; decide), fun q3 H3 S3 h3 => ?_⟩
    have S13 := S12.trans S3
    refine k hc (.ref q3) H3 S13 (.tup h3 (.cons (.int b) (.cons (.int m) (.cons (.tup (S3 _ _ h2) ?_) .nil))))
    rw [List.map_append]
    exact (dy.same S13).append (dz.same S13)
end
end HN

/-! waits of a table. -/
namespace HN
open PySem L2 PyProof.Rows
abbrev sRest : Stmt := top 24
section
variable {P : Program} {w : World} {K : PySem.W.Frag} {mg : Str → Option Value} {base : Heap}
theorem scRest : FnScope ["beat", "number"] ["beat", "number"] (defScope sRest) := ⟨rfl, rfl, rfl, by decide +kernel, rfl, by decide +kernel, by decide +kernel⟩
theorem ok_rest {f : Addr} {fd : FuncData} (F : Fun K "rest_by" "rest_by" sRest f fd) : FnOk P w K mg base CX0 1 f fd ["beat", "number"] spRest := by
  refine F.ok scRest (fun vs H Q E h => by obtain ⟨b, n, rfl, _⟩ := h; rfl) (fun cdv A outer s H vs Q E hr h => ?_)
  obtain ⟨b, n, rfl, hb, k⟩ := h
  refine ⟨_, PSl.h (l_one ⟨(ps_ret (pe_op op_mod (pv 1) (pv 0)))⟩), ?_⟩
  exact ⟨_, rfl, _, rfl, hb, k⟩
end
end HN

/-! drawing out of a box. -/
namespace HN
open PySem L2 PyProof.Rows
abbrev sCell : Stmt := top 29
abbrev sBox : Stmt := top 30
abbrev sDraw : Stmt := top 31
abbrev sBeat : Stmt := top 32
section
variable {P : Program} {w : World} {K : PySem.W.Frag} {mg : Str → Option Value} {base : Heap}
theorem scCell : FnScope ["_law_script", "_law_k"] ["_law_script", "_law_k"] (defScope sCell) := ⟨rfl, rfl, rfl, by decide +kernel, rfl, by decide +kernel, by decide +kernel⟩
theorem ok_cell {f : Addr} {fd : FuncData} (F : Fun K "_law_cell_at" "_law_cell_at" sCell f fd) (T : Nm mg) : FnOk P w K mg base CX0 1 f fd ["_law_script", "_law_k"] (spCell K) := by
  refine F.ok scCell (fun vs H Q E h => by obtain ⟨a, ns, k, rfl, _⟩ := h; rfl) (fun cdv A outer s H vs Q E hr h => ?_)
  obtain ⟨a, ns, j, rfl, ha, hj, k⟩ := h
  refine ⟨_, pss_cons (ps_if (pt_cmpR op_lt (pv 1) (pe_callB (lenN K) rfl T.len PySem.boot_len (pa_cons (pv 0) pa_nil)) (nomark _)) (pss_one (ps_ret (pe_ix (ixNL K) (pv 0) (pv 1) (fun _ _ => rfl)))) pss_nil) (pss_one (ps_ret pe_int)), ?_⟩
  refine ⟨_, rfl, _, rfl, a, _, rfl, .inl ha, _, rfl, ?_⟩
  refine ite2 (fun h1 => ?_) (fun h1 => ?_)
  · have h1 : j < ((ns.map V.int).length : Int) := of_decide_eq_true h1
    obtain ⟨v, e1, e2⟩ := atI_in hj h1
    obtain ⟨c, _, rfl⟩ := List.mem_map.mp e2
    exact ⟨_, rfl, _, rfl, _, ⟨a, _, _, rfl, rfl, ha, e1⟩, k c⟩
  · exact k 0
theorem scBox : FnScope ["_law_script", "_law_k", "_law_cell", "_law_number", "_law_j", "_law_mixed"] ["_law_script", "_law_k"] (defScope sBox) := ⟨rfl, rfl, rfl, by decide +kernel, rfl, by decide +kernel, by decide +kernel⟩
theorem ok_box {f f1 : Addr} {fd fd1 : FuncData} (F : Fun K "_law_box" "_law_box" sBox f fd) (T : Nm mg) (T2 : Nt mg) (G1 : Fn K mg "_law_cell_at" sCell ["_law_script", "_law_k"] f1 fd1) : FnOk P w K mg base CX0 2 f fd ["_law_script", "_law_k"] (spBox K) := by
  have F1 : FnOk P w K mg base CX0 1 f1 fd1 ["_law_script", "_law_k"] (spCell K) := ok_cell G1.F T
  refine F.ok scBox (fun vs H Q E h => by obtain ⟨a, ns, k, rfl, _⟩ := h; rfl) (fun cdv A outer s H vs Q E hr h => ?_)
  obtain ⟨a, ns, j, rfl, ha, hj, k⟩ := h
  refine ⟨_, PSl.h (l_cons ⟨(ps_set (i := 2) scBox.nd rfl (Or.inl rfl) (pc1 G1 F1 hr (pa_cons (pv 0) (pa_cons (pv 1) pa_nil))))⟩
    (l_cons ⟨(ps_set (i := 3) scBox.nd rfl (Or.inl rfl) pe_int)⟩
    (l_cons ⟨(ps_for PassesOwn.never rfl (pi_range1 rfl T2.range (pa_cons pe_int pa_nil)) (pg_name (i := 4) scBox.nd rfl (Or.inl rfl)) (PSl.h (l_cons ⟨(ps_set (i := 5) scBox.nd rfl (Or.inl rfl) (pe_op op_mod (pe_op op_mul (pe_op op_add (pe_op op_add (pe_op op_mod (pe_op op_fdiv (pv 2) pe_int) pe_int) (pe_op op_mul pe_int (pv 4))) pe_int) pe_int) pe_int))⟩
    (l_cons ⟨(ps_set (i := 5) scBox.nd rfl (Or.inl rfl) (pe_op op_mod (pe_op op_add (pe_op op_add (pe_op op_mul (pv 5) (pv 5)) (pe_op op_mul pe_int (pv 4))) (pv 1)) pe_int))⟩
    (l_one ⟨(ps_set (i := 3) scBox.nd rfl (Or.inl rfl) (pe_op op_add (pe_op op_mul (pv 3) pe_int) (pe_op op_mod (pe_op op_mul (pv 5) pe_int) pe_int)))⟩)))))⟩
    (l_cons ⟨(ps_if (pt_cmpR op_eq (pe_op op_mod (pv 2) pe_int) pe_int (nomark _)) (pss_one (ps_ret (pe_lst (pa_cons (pe_op op_fdiv (pv 2) pe_int) (pa_cons (pv 3) pa_nil))))) pss_nil)⟩
    (l_one ⟨(ps_ret (pe_lst (pa_cons (pv 3) (pa_cons pe_int pa_nil))))⟩))))), ?_⟩
  refine ⟨_, rfl, _, rfl, a, ns, j, rfl, ha, hj, fun c => ?_⟩
  refine ⟨60, rfl, by decide, by decide, for_range (n := 60) (fun i σ H2 => H2 = H ∧ ∃ n vj vm, σ = [some (.ref a), some (.int j), some (.int c), some (.int n), vj, vm]) ⟨rfl, 0, none, none, rfl⟩ ?_ ?_⟩
  · rintro i σ H2 hi ⟨rfl, n, vj, vm, rfl⟩
    refine ⟨_, rfl, ⟨by decide, by decide⟩, (by show (0 : Int) < 2147483647; decide), _, rfl, .inl ⟨by decide, by decide⟩, .inr ⟨by decide, by decide⟩, (by show (0 : Int) < 2147483647; decide), ?_⟩
    refine ⟨_, rfl, _, rfl, .inl ?_, _, rfl, .inl ⟨by decide, by decide⟩, _, rfl, (by show (0 : Int) < 2147483629; decide), ?_⟩
    · have h1 := Int.emod_nonneg ((c / 2 % 2147483647 + 7919 * (0 + (i : Int)) + 1) * 48271) (by decide : (2147483647 : Int) ≠ 0)
      have h2 := Int.emod_lt_of_pos ((c / 2 % 2147483647 + 7919 * (0 + (i : Int)) + 1) * 48271) (by decide : (0 : Int) < 2147483647)
      exact ⟨by omega, by omega⟩
    · refine ⟨_, rfl, .inr ⟨by decide, by decide⟩, _, rfl, .inr ⟨by decide, by decide⟩, (by show (0 : Int) < 2147483629; decide), ?_⟩
      exact ⟨rfl, _, _, _, rfl⟩
  · rintro σ H2 ⟨rfl, n, vj, vm, rfl⟩
    refine ⟨_, rfl, (by show (0 : Int) < 2; decide), rfl, _, rfl, ?_⟩
    refine ite2 (fun _ => ?_) (fun _ => ?_)
    · exact ⟨_, rfl, ⟨by decide, by decide⟩, _, rfl, (by show 2 ≤ sizeLine; decide), fun p hp => k _ _ p hp⟩
    · exact ⟨_, rfl, (by show 2 ≤ sizeLine; decide), fun p hp => k _ _ p hp⟩
theorem scDraw : FnScope ["_law_box_here", "_law_most", "_law_number"] ["_law_box_here", "_law_most"] (defScope sDraw) := ⟨rfl, rfl, rfl, by decide +kernel, rfl, by decide +kernel, by decide +kernel⟩
theorem ok_draw {f : Addr} {fd : FuncData} (F : Fun K "_law_draw" "_law_draw" sDraw f fd) : FnOk P w K mg base CX0 1 f fd ["_law_box_here", "_law_most"] spDraw := by
  refine F.ok scDraw (fun vs H Q E h => by obtain ⟨p, x, y, m, rfl, _⟩ := h; rfl) (fun cdv A outer s H vs Q E hr h => ?_)
  obtain ⟨p, x, y, m, rfl, hp, h0, h1, k⟩ := h
  refine ⟨_, PSl.h (l_cons ⟨(ps_cutK (ps_if (pt_cmpR op_eq (pe_ix (ixNL K) (pv 0) pe_int (fun _ _ => rfl)) pe_int (nomark _)) (PSl.h (l_cons ⟨(ps_asg (pe_ix (ixNL K) (pv 0) pe_int (fun _ _ => rfl)) (pg_sub (pv 0) pe_int set_list))⟩
    (l_one ⟨(ps_asg pe_int (pg_sub (pv 0) pe_int set_list))⟩))) pss_nil))⟩
    (l_cons ⟨(ps_set (i := 2) scDraw.nd rfl (Or.inl rfl) (pe_ix (ixNL K) (pv 0) pe_int (fun _ _ => rfl)))⟩
    (l_cons ⟨(ps_asg (pe_op op_fdivB (pv 2) (pv 1)) (pg_sub (pv 0) pe_int set_list))⟩
    (l_one ⟨(ps_ret (pe_op op_mod (pv 2) (pv 1)))⟩)))), ?_⟩
  refine ⟨fun σ' H' => σ' = [some (.ref p), some (.int m), none] ∧ Mb p H H', ?_, ?_⟩
  rotate_left
  · refine ⟨_, rfl, _, ⟨p, _, _, rfl, rfl, SqL.of hp, atI_nat (j := 0) rfl⟩, rfl, _, rfl, ?_⟩
    refine ite2 (fun _ => ?_) (fun _ => ?_)
    · refine ⟨_, rfl, _, ⟨p, _, _, rfl, rfl, SqL.of hp, atI_nat (j := 1) rfl⟩, _, rfl, p, _, _, 0, rfl, rfl, hp, rfl, ?_⟩
      refine ⟨_, rfl, p, _, _, 1, rfl, rfl, upd_same, rfl, rfl, fun b o hb e => by rw [upd_ne hb, upd_ne hb]; exact e, y, 0, ?_⟩
      rw [upd_same]; rfl
    · exact ⟨rfl, Mb.refl hp⟩
  rintro σ' H1 ⟨rfl, M1⟩
  obtain ⟨x1, y1, hp1⟩ := M1.2
  refine ⟨_, rfl, _, ⟨p, _, _, rfl, rfl, SqL.of hp1, atI_nat (j := 0) rfl⟩, ?_⟩
  refine ⟨_, rfl, _, rfl, log_ok h0 h1, _, rfl, p, _, _, 0, rfl, rfl, hp1, rfl, ?_⟩
  refine ⟨_, rfl, _, rfl, h0, k _ _ (Int.emod_nonneg _ (by omega)) (Int.emod_lt_of_pos _ h0) ⟨fun b o hb e => by rw [upd_ne hb]; exact M1.1 b o hb e, x1 / m, y1, ?_⟩⟩
  rw [upd_same]; rfl
theorem scBeat : FnScope ["_law_box_here", "_law_most", "_law_beat_here"] ["_law_box_here", "_law_most"] (defScope sBeat) := ⟨rfl, rfl, rfl, by decide +kernel, rfl, by decide +kernel, by decide +kernel⟩
theorem ok_beat {f f1 : Addr} {fd fd1 : FuncData} (F : Fun K "_law_beat" "_law_beat" sBeat f fd) (G1 : Fn K mg "_law_draw" sDraw ["_law_box_here", "_law_most"] f1 fd1) : FnOk P w K mg base CX0 2 f fd ["_law_box_here", "_law_most"] spBeat := by
  have F1 : FnOk P w K mg base CX0 1 f1 fd1 ["_law_box_here", "_law_most"] spDraw := ok_draw G1.F
  refine F.ok scBeat (fun vs H Q E h => by obtain ⟨p, x, y, m, rfl, _⟩ := h; rfl) (fun cdv A outer s H vs Q E hr h => ?_)
  obtain ⟨p, x, y, m, rfl, hp, h0, h1, k⟩ := h
  refine ⟨_, PSl.h (l_cons ⟨(ps_set (i := 2) scBeat.nd rfl (Or.inl rfl) (pe_op op_add pe_int (pc1 G1 F1 hr (pa_cons (pv 0) (pa_cons (pv 1) pa_nil)))))⟩
    (l_cons ⟨(ps_if (pt_cmpR op_eq (pc1 G1 F1 hr (pa_cons (pv 0) (pa_cons pe_int pa_nil))) pe_int (nomark _)) (pss_one (ps_set (i := 2) scBeat.nd rfl (Or.inl rfl) (pe_op op_mul (pv 2) (pe_op op_add pe_int (pc1 G1 F1 hr (pa_cons (pv 0) (pa_cons (pe_op op_pow pe_int pe_int) pa_nil))))))) pss_nil)⟩
    (l_one ⟨(ps_ret (pv 2))⟩))), ?_⟩
  refine ⟨_, rfl, _, rfl, p, x, y, m, rfl, hp, h0, by omega, fun r1 H1 a1 c1 M1 => ?_⟩
  have hp1 := M1.box
  refine ?_
  refine ⟨_, rfl, p, _, _, 4, rfl, hp1, by decide, by decide, fun r2 H2 _ _ M2 => ?_⟩
  have M2 := M1.trans M2
  have hp2 := M2.box
  refine ⟨rfl, _, rfl, ?_⟩
  refine ite2 (fun _ => ?_) (fun _ => ?_)
  · refine ⟨_, rfl, _, rfl, ⟨by decide, by decide, by decide⟩, p, _, _, _, rfl, hp2, by decide, by decide, fun r3 H3 a3 c3 M3 => ?_⟩
    refine ⟨.inl ⟨by omega, by omega⟩, _, rfl, k _ _ ?_ ?_ (M2.trans M3)⟩
    · have : 1 * 1 ≤ (1 + r1) * (1 + r3) := Int.mul_le_mul (by omega) (by omega) (by decide) (by omega)
      omega
    · have c3 : r3 < 10 ^ 30 := c3
      have : (1 + r1) * (1 + r3) ≤ 100 * (10 ^ 30) := Int.mul_le_mul (by omega) (by omega) (by omega) (by decide)
      omega
  · exact ⟨_, rfl, k _ _ (by omega) (by omega) M2⟩
end
end HN

/-! spans and nets out of a box. -/
namespace HN
open PySem L2 PyProof.Rows
abbrev sSpanB : Stmt := top 33
abbrev sNetB : Stmt := top 34
section
variable {P : Program} {w : World} {K : PySem.W.Frag} {mg : Str → Option Value} {base : Heap}
theorem scSpanB : FnScope ["_law_box_here", "_law_beat_here", "_law_many", "_law_start", "_law_goal", "_law_least", "_law_wide", "_law_weight"] ["_law_box_here", "_law_beat_here", "_law_many"] (defScope sSpanB) := ⟨rfl, rfl, rfl, by decide +kernel, rfl, by decide +kernel, by decide +kernel⟩
theorem ok_spanB {f f1 : Addr} {fd fd1 : FuncData} (F : Fun K "_law_span" "_law_span" sSpanB f fd) (T : Nm mg) (G1 : Fn K mg "_law_draw" sDraw ["_law_box_here", "_law_most"] f1 fd1) : FnOk P w K mg base CX0 2 f fd ["_law_box_here", "_law_beat_here", "_law_many"] spSpanB := by
  have F1 : FnOk P w K mg base CX0 1 f1 fd1 ["_law_box_here", "_law_most"] spDraw := ok_draw G1.F
  refine F.ok scSpanB (fun vs H Q E h => by obtain ⟨p, x, y, b, m, rfl, _⟩ := h; rfl) (fun cdv A outer s H vs Q E hr h => ?_)
  obtain ⟨p, x, y, b, m, rfl, hp, hb1, hb2, hm1, hm2, k⟩ := h
  refine ⟨_, PSl.h (l_cons ⟨(ps_set (i := 3) scSpanB.nd rfl (Or.inl rfl) (pc1 G1 F1 hr (pa_cons (pv 0) (pa_cons (pv 2) pa_nil))))⟩
    (l_cons ⟨(ps_set (i := 4) scSpanB.nd rfl (Or.inl rfl) (pe_op op_mod (pe_op op_add (pe_op op_add (pv 3) pe_int) (pc1 G1 F1 hr (pa_cons (pv 0) (pa_cons (pe_op op_sub (pv 2) pe_int) pa_nil)))) (pv 2)))⟩
    (l_cons ⟨(ps_set (i := 5) scSpanB.nd rfl (Or.inl rfl) (PEs.h (k_ix (ixNL K) (k_lst (a_cons k_int (a_cons ⟨pc1 G1 F1 hr (pa_cons (pv 0) (pa_cons (pv 1) pa_nil))⟩ (a_cons ⟨pc1 G1 F1 hr (pa_cons (pv 0) (pa_cons (pe_op op_pow pe_int pe_int) pa_nil))⟩ (a_cons (k_op op_mul ⟨pv 1⟩ k_int) a_nil))))) ⟨pc1 G1 F1 hr (pa_cons (pv 0) (pa_cons pe_int pa_nil))⟩ (fun _ _ => rfl))))⟩
    (l_cons ⟨(ps_set (i := 6) scSpanB.nd rfl (Or.inl rfl) (PEs.h (k_ix (ixNL K) (k_lst (a_cons k_int (a_cons ⟨pc1 G1 F1 hr (pa_cons (pv 0) (pa_cons (pe_callB (call_min2 rfl) rfl T.min boot_min (pa_cons pe_int (pa_cons (pv 1) pa_nil))) pa_nil))⟩ (a_cons ⟨pc1 G1 F1 hr (pa_cons (pv 0) (pa_cons (pv 1) pa_nil))⟩ (a_cons (k_op op_sub ⟨pv 1⟩ k_int) a_nil))))) ⟨pc1 G1 F1 hr (pa_cons (pv 0) (pa_cons pe_int pa_nil))⟩ (fun _ _ => rfl))))⟩
    (l_cons ⟨(ps_set (i := 7) scSpanB.nd rfl (Or.inl rfl) (PEs.h (k_ix (ixNL K) (k_lst (a_cons k_int (a_cons ⟨pc1 G1 F1 hr (pa_cons (pv 0) (pa_cons pe_int pa_nil))⟩ (a_cons ⟨pc1 G1 F1 hr (pa_cons (pv 0) (pa_cons (pe_op op_add (pe_op op_pow pe_int pe_int) pe_int) pa_nil))⟩ a_nil)))) ⟨pc1 G1 F1 hr (pa_cons (pv 0) (pa_cons pe_int pa_nil))⟩ (fun _ _ => rfl))))⟩
    (l_one ⟨(ps_ret (pe_tupA (pa_cons (pv 3) (pa_cons (pv 4) (pa_cons (pv 5) (pa_cons (pe_op op_add (pv 5) (pv 6)) (pa_cons (pv 7) pa_nil)))))))⟩)))))), ?_⟩
  -- start and goal
  refine ⟨_, rfl, _, rfl, p, x, y, m, rfl, hp, by omega, by omega, fun r1 H1 a1 c1 M1 => ?_⟩
  have hp1 := M1.box
  refine ⟨_, rfl, _, rfl, _, rfl, p, _, _, _, rfl, hp1, by omega, by omega, fun r2 H2 a2 c2 M2 => ?_⟩
  have M2 := M1.trans M2
  have hp2 := M2.box
  refine ⟨_, rfl, (by show (0 : Int) < m; omega), ?_⟩
  obtain ⟨g0, g1, g2⟩ := goal_ok a1 c1 a2 c2
  -- least
  refine ⟨_, rfl, _, rfl, p, _, _, b, rfl, hp2, by omega, by omega, fun r3 H3 a3 c3 M3 => ?_⟩
  have M3 := M2.trans M3
  have hp3 := M3.box
  refine ⟨_, rfl, ⟨by decide, by decide, by decide⟩, p, _, _, _, rfl, hp3, by decide, by decide, fun r4 H4 a4 c4 M4 => ?_⟩
  have M4 := M3.trans M4
  have hp4 := M4.box
  refine ⟨_, rfl, .inr ⟨by decide, by decide⟩, (by show 4 ≤ sizeLine; decide), fun q5 H5 S5 h5 => ?_⟩
  have M5 := M4.then S5
  obtain ⟨x5, y5, hp5⟩ := M5.2
  refine ⟨_, rfl, p, x5, y5, 4, rfl, hp5, by decide, by decide, fun r6 H6 a6 c6 M6 => ?_⟩
  have h6 := M6.at h5 (ne_of h5 hp5 (by intro z; cases z))
  have M6 := M5.trans M6
  have hp6 := M6.box
  obtain ⟨v6, e6, m6⟩ := atI_in (xs := [V.int 0, V.int r3, V.int r4, V.int (b * 7)]) a6 c6
  have c4 : r4 < 10 ^ 3 := c4
  obtain ⟨l, rfl, l0, l1⟩ : ∃ i, v6 = V.int i ∧ 0 ≤ i ∧ i ≤ 10 ^ 34 := by
    simp only [List.mem_cons, List.not_mem_nil, or_false] at m6
    rcases m6 with rfl | rfl | rfl | rfl
    · exact ⟨_, rfl, by decide, by decide⟩
    · exact ⟨_, rfl, by omega, by omega⟩
    · exact ⟨_, rfl, by omega, by omega⟩
    · exact ⟨_, rfl, by omega, by omega⟩
  refine ⟨_, ⟨q5, _, _, rfl, rfl, SqL.of h6, e6⟩, ?_⟩
  -- width
  refine ⟨_, rfl, _, rfl, _, _, rfl, p, _, _, _, rfl, hp6, by split <;> omega, by split <;> omega, fun r7 H7 a7 c7 M7 => ?_⟩
  have M7 := M6.trans M7
  have hp7 := M7.box
  have c7 : r7 < b := by
    refine Int.lt_of_lt_of_le c7 ?_
    split <;> omega
  refine ⟨_, rfl, _, rfl, p, _, _, b, rfl, hp7, by omega, by omega, fun r8 H8 a8 c8 M8 => ?_⟩
  have M8 := M7.trans M8
  have hp8 := M8.box
  refine ⟨_, rfl, (by show 4 ≤ sizeLine; decide), fun q9 H9 S9 h9 => ?_⟩
  have M9 := M8.then S9
  obtain ⟨x9, y9, hp9⟩ := M9.2
  refine ⟨_, rfl, p, x9, y9, 4, rfl, hp9, by decide, by decide, fun rA HA aA cA MA => ?_⟩
  have hA := MA.at h9 (ne_of h9 hp9 (by intro z; cases z))
  have MA := M9.trans MA
  have hpA := MA.box
  obtain ⟨vA, eA, mA⟩ := atI_in (xs := [V.int 0, V.int r7, V.int r8, V.int (b - 1)]) aA cA
  obtain ⟨wd, rfl, w0, w1⟩ : ∃ i, vA = V.int i ∧ 0 ≤ i ∧ i < b := by
    simp only [List.mem_cons, List.not_mem_nil, or_false] at mA
    rcases mA with rfl | rfl | rfl | rfl
    · exact ⟨_, rfl, by decide, by omega⟩
    · exact ⟨_, rfl, a7, c7⟩
    · exact ⟨_, rfl, a8, c8⟩
    · exact ⟨_, rfl, by omega, by omega⟩
  refine ⟨_, ⟨q9, _, _, rfl, rfl, SqL.of hA, eA⟩, ?_⟩
  -- weight
  refine ⟨_, rfl, p, _, _, 10, rfl, hpA, by decide, by decide, fun rB HB aB cB MB => ?_⟩
  have MB := MA.trans MB
  have hpB := MB.box
  refine ⟨_, rfl, ⟨by decide, by decide, by decide⟩, p, _, _, _, rfl, hpB, by decide, by decide, fun rC HC aC cC MC => ?_⟩
  have MC := MB.trans MC
  have hpC := MC.box
  refine ⟨(by show 3 ≤ sizeLine; decide), fun qD HD SD hD => ?_⟩
  have MD := MC.then SD
  obtain ⟨xD, yD, hpD⟩ := MD.2
  refine ⟨_, rfl, p, xD, yD, 3, rfl, hpD, by decide, by decide, fun rE HE aE cE ME => ?_⟩
  have hE := ME.at hD (ne_of hD hpD (by intro z; cases z))
  have ME := MD.trans ME
  obtain ⟨vE, eE, mE⟩ := atI_in (xs := [V.int 0, V.int rB, V.int rC]) aE cE
  have cC : rC < 10 ^ 12 + 1 := cC
  obtain ⟨wt, rfl, t0, t1⟩ : ∃ i, vE = V.int i ∧ 0 ≤ i ∧ i ≤ 1000000000000 := by
    simp only [List.mem_cons, List.not_mem_nil, or_false] at mE
    rcases mE with rfl | rfl | rfl
    · exact ⟨_, rfl, by decide, by decide⟩
    · exact ⟨_, rfl, by omega, by omega⟩
    · exact ⟨_, rfl, by omega, by omega⟩
  refine ⟨_, ⟨qD, _, _, rfl, rfl, SqL.of hE, eE⟩, ?_⟩
  refine ⟨_, rfl, _, rfl, _, rfl, _, rfl, _, rfl, _, rfl, (by show 5 ≤ sizeLine; decide), fun t HF SF hF => ?_⟩
  exact k t ⟨r1, (r1 + 1 + r2) % m, l, l + wd, wt⟩ HF (ME.then SF) hF ⟨a1, c1, g0, g1, g2, l0, by show l ≤ l + wd; omega, by show l + wd < l + b; omega, by show l + wd < 10 ^ 60; omega, t0, t1⟩
theorem scNetB : FnScope ["_law_box_here", "_law_most", "_law_beat_here", "_law_many", "_law_spans"] ["_law_box_here", "_law_most"] (defScope sNetB) := ⟨rfl, rfl, rfl, by decide +kernel, rfl, by decide +kernel, by decide +kernel⟩
theorem ok_netB {f f1 f2 f3 : Addr} {fd fd1 fd2 fd3 : FuncData} (F : Fun K "_law_net" "_law_net" sNetB f fd) (T : Nm mg) (T2 : Nt mg) (G1 : Fn K mg "_law_draw" sDraw ["_law_box_here", "_law_most"] f1 fd1) (G2 : Fn K mg "_law_beat" sBeat ["_law_box_here", "_law_most"] f2 fd2) (G3 : Fn K mg "_law_span" sSpanB ["_law_box_here", "_law_beat_here", "_law_many"] f3 fd3) : FnOk P w K mg base CX0 3 f fd ["_law_box_here", "_law_most"] spNetB := by
  have F1 : FnOk P w K mg base CX0 1 f1 fd1 ["_law_box_here", "_law_most"] spDraw := ok_draw G1.F
  have F2 : FnOk P w K mg base CX0 2 f2 fd2 ["_law_box_here", "_law_most"] spBeat := ok_beat G2.F G1
  have F3 : FnOk P w K mg base CX0 2 f3 fd3 ["_law_box_here", "_law_beat_here", "_law_many"] spSpanB := ok_spanB G3.F T G1
  refine F.ok scNetB (fun vs H Q E h => by obtain ⟨p, x, y, c, rfl, _⟩ := h; rfl) (fun cdv A outer s H vs Q E hr h => ?_)
  obtain ⟨p, x, y, c, rfl, hp, c0, c1, k⟩ := h
  have hr1 : Room 1 _ := hr.mono (by decide)
  refine ⟨_, PSl.h (l_cons ⟨(ps_set (i := 2) scNetB.nd rfl (Or.inr rfl) (pc1 G2 F2 hr (pa_cons (pv 0) (pa_cons pe_int pa_nil))))⟩
    (l_cons ⟨(ps_set (i := 3) scNetB.nd rfl (Or.inr rfl) (pe_op op_add pe_int (pc1 G1 F1 hr1 (pa_cons (pv 0) (pa_cons pe_int pa_nil)))))⟩
    (l_cons ⟨(ps_setC (iy := 4) (fr := ["_law_box_here", "_law_beat_here", "_law_many"]) (js := [0, 2, 3]) scNetB.nd rfl (Or.inl rfl) rfl (pi_range1 rfl T2.range (pa_cons (pc1 G1 F1 hr1 (pa_cons (pv 0) (pa_cons (pe_op op_add (pv 1) pe_int) pa_nil))) pa_nil)) (by decide +kernel) rfl (by decide +kernel) rfl (by show ∀ y : Str × NameKind, y ∈ _ → y.2 = NameKind.free → List.lookup y.1 (defScope sNetB).names = some NameKind.cell; decide +kernel) (by decide +kernel) rfl (by decide +kernel) (fun _ _ _ _ _ => ⟨(pc1 G3 F3 hr (pa_cons (pv 1) (pa_cons (pv 2) (pa_cons (pv 3) pa_nil)))), pts_nil⟩))⟩
    (l_one ⟨(ps_ret (pe_tupA (pa_cons (pv 2) (pa_cons (pv 3) (pa_cons (pe_callTy (tupN K) rfl T.ttup boot_tuple (pa_cons (pv 4) pa_nil)) pa_nil)))))⟩)))), ?_⟩
  refine ⟨_, rfl, p, x, y, 60, rfl, hp, by decide, by decide, fun b H1 b1 b2 M1 => ?_⟩
  have hp1 := M1.box
  refine ⟨_, rfl, p, _, _, 15, rfl, hp1, by decide, by decide, fun r2 H2 a2 c2 M2 => ?_⟩
  have M2 := M1.trans M2
  have hp2 := M2.box
  refine ?_
  have m1 : 2 ≤ 2 + r2 := by omega
  have m2 : 2 + r2 ≤ 16 := by omega
  refine ⟨_, rfl, _, rfl, p, _, _, _, rfl, hp2, by omega, by omega, fun r3 H3 a3 c3 M3 => ?_⟩
  have M3 := M2.trans M3
  refine ⟨r3, rfl, by omega, by omega, ?_⟩
  refine comp_range (n := r3.toNat) (fun i zs H4 => Mb p H H4 ∧ ∃ sp : List Sn, IsDs H4 zs (sp.map fun z => .tup (z.row.map Dt.int)) ∧ sp.length = i ∧ ∀ z ∈ sp, SnOk b (2 + r2) z) ⟨M3, [], .nil, rfl, fun _ h => absurd h (by simp)⟩ (fun i zs H4 _ ⟨_, sp, e, hl, _⟩ => by rw [e.length, List.length_map, hl]; exact Nat.le_refl _) (small_le (by omega)) (fun i zs H4 hi ⟨M4, sp, e4, hl4, all4⟩ => ?_) (fun zs H4 ⟨M4, sp, e4, hl4, all4⟩ D hD => ?_)
  · refine tNoIf_go ?_
    have hp4 := M4.box
    refine ⟨_, rfl, _, rfl, _, rfl, p, _, _, b, 2 + r2, rfl, hp4, b1, b2, m1, m2, fun t z H5 M5 h5 ok5 => ?_⟩
    refine ⟨M4.trans M5, sp ++ [z], ?_, by rw [List.length_append, hl4]; rfl, fun z' hz' => ?_⟩
    · rw [List.map_append]
      exact (boxed e4 M5 hp4).append (.cons (.tup h5 (IsDs.ints z.row)) .nil)
    · rcases List.mem_append.mp hz' with hz' | hz'
      · exact all4 z' hz'
      · rw [List.mem_singleton.mp hz']; exact ok5
  have S5 := Same.put (o := .lst zs) (Same.refl H4) hD
  have hD5 : (upd H4 D (.lst zs)) D = some (.lst zs) := upd_same
  generalize upd H4 D (.lst zs) = H5 at S5 hD5 ⊢
  refine ⟨_, rfl, _, rfl, _, rfl, D, _, rfl, SqL.of hD5, fun q6 H6 S6 h6 => ?_⟩
  refine ⟨(by show 3 ≤ sizeLine; decide), fun t H7 S7 h7 => ?_⟩
  refine k t b (2 + r2) sp H7 (((M4.then S5).then S6).then S7) (.tup h7 (.cons (.int b) (.cons (.int (2 + r2)) (.cons (.tup (S7 _ _ h6) (e4.same (S5.trans (S6.trans S7)))) .nil)))) ⟨b1, by omega, by omega, m2, by omega, all4⟩ b2 m1
end
end HN

/-! whole numbers. -/
namespace HN
open PySem L2 PyProof.Rows
abbrev sWhole : Stmt := top 10
abbrev sWithin : Stmt := top 11
section
variable {P : Program} {w : World} {K : PySem.W.Frag} {mg : Str → Option Value} {base : Heap}
theorem scWhole : FnScope ["thing"] ["thing"] (defScope sWhole) := ⟨rfl, rfl, rfl, by decide +kernel, rfl, by decide +kernel, by decide +kernel⟩
theorem ok_whole {f : Addr} {fd : FuncData} (F : Fun K "is_whole" "is_whole" sWhole f fd) (T : Nm mg) : FnOk P w K mg base CX0 1 f fd ["thing"] spWhole := by
  refine F.ok scWhole (fun vs H Q E h => by obtain ⟨v, rfl, _⟩ := h; rfl) (fun cdv A outer s H vs Q E hr h => ?_)
  obtain ⟨v, rfl, ⟨S, hS⟩, k⟩ := h
  refine ⟨_, pss_one (ps_ret (pe_and (pe_isInt T (pv 0)) (pe_one (pe_not (pe_isBool T (pv 0)))))), ?_⟩
  refine ⟨_, rfl, _, _, rfl, hS, _, rfl, ?_⟩
  refine ite2 (fun hc => ?_) (fun hc => ?_)
  · refine ⟨_, rfl, _, _, rfl, hS, _, rfl, ?_⟩
    rw [sort_int hS hc]; exact k
  · rw [← sort_noInt hS hc]; exact k

theorem scWithin : FnScope ["thing", "low", "high"] ["thing", "low", "high"] (defScope sWithin) := ⟨rfl, rfl, rfl, by decide +kernel, rfl, by decide +kernel, by decide +kernel⟩
theorem ok_within {f f1 : Addr} {fd fd1 : FuncData} (F : Fun K "is_within" "is_within" sWithin f fd) (T : Nm mg) (G1 : Fn K mg "is_whole" sWhole ["thing"] f1 fd1) : FnOk P w K mg base CX0 2 f fd ["thing", "low", "high"] spWithin := by
  have F1 : FnOk P w K mg base CX0 1 f1 fd1 ["thing"] spWhole := ok_whole G1.F T
  refine F.ok scWithin (fun vs H Q E h => by obtain ⟨v, lo, hi, rfl, _⟩ := h; rfl) (fun cdv A outer s H vs Q E hr h => ?_)
  obtain ⟨v, lo, hi, rfl, hS, k⟩ := h
  refine ⟨_, pss_one (ps_ret (pe_and (pc1 G1 F1 hr (pa_cons (pv 0) pa_nil)) (pe_one (pe_chain op_le op_le (pv 1) (pv 0) (pv 2))))), ?_⟩
  refine ⟨_, rfl, _, rfl, hS, _, rfl, ?_⟩
  refine ite2 (fun hc => ?_) (fun hc => ?_)
  · obtain ⟨i, rfl⟩ := isI_of hc
    refine ⟨_, rfl, _, rfl, _, rfl, ?_⟩
    refine ite2 (fun h1 => ?_) (fun h1 => ?_)
    · refine ⟨_, rfl, ?_⟩
      have e : inI (.int i) lo hi = decide (i ≤ hi) := by show (decide (lo ≤ i) && decide (i ≤ hi)) = _; rw [h1]; rfl
      show Q (.bl (decide (i ≤ hi))) H
      rw [← e]; exact k
    · have e : inI (.int i) lo hi = false := by show (decide (lo ≤ i) && decide (i ≤ hi)) = _; rw [Bool.eq_false_iff.mpr h1]; rfl
      rw [← e]; exact k
  · have e : inI v lo hi = false := by
      cases v with
      | int i => exact absurd rfl hc
      | _ => rfl
    rw [← e]; exact k

end
end HN

/-! where steps lead. -/
namespace HN
open PySem L2 PyProof.Rows
abbrev sFrom : Stmt := top 17
abbrev sTo : Stmt := top 18
section
variable {P : Program} {w : World} {K : PySem.W.Frag} {mg : Str → Option Value} {base : Heap}
theorem scFrom : FnScope ["net", "step", "span"] ["net", "step"] (defScope sFrom) := ⟨rfl, rfl, rfl, by decide +kernel, rfl, by decide +kernel, by decide +kernel⟩
theorem ok_from {f : Addr} {fd : FuncData} (F : Fun K "leads_from" "leads_from" sFrom f fd) : FnOk P w K mg base CX0 1 f fd ["net", "step"] spFrom := by
  refine F.ok scFrom (fun vs H Q E h => by obtain ⟨v, q, b, m, sp, s, x, rfl, _⟩ := h; rfl) (fun cdv A outer s0 H vs Q E hr h => ?_)
  obtain ⟨v, q, b, m, sp, s, x, rfl, hv, hq, hx, k⟩ := h
  obtain ⟨t, p, ys, rfl, ht, hp, hl, hy⟩ := netP_of hv
  obtain ⟨qx, hqx, hqx2⟩ := hy s.i x hx
  refine ⟨_, PSl.h (l_cons ⟨(ps_set (i := 2) scFrom.nd rfl (Or.inl rfl) (pe_ix (ixNT K) (pe_ix (ixNT K) (pv 0) pe_int (fun _ _ => rfl)) (pe_ix (ixNT K) (pv 1) pe_int (fun _ _ => rfl)) (fun _ _ => rfl)))⟩
    (l_one ⟨(ps_ret (pe_ifExp (pt_cmpR op_eq (pe_ix (ixNT K) (pv 1) pe_int (fun _ _ => rfl)) pe_int (nomark _)) (pe_ix (ixNT K) (pv 2) pe_int (fun _ _ => rfl)) (pe_ix (ixNT K) (pv 2) pe_int (fun _ _ => rfl))))⟩)), ?_⟩
  refine ⟨_, rfl, _, ⟨t, _, _, rfl, rfl, SqT.of ht, atI_nat (j := 2) rfl⟩, _, rfl, _, ⟨q, _, _, rfl, rfl, SqT.of hq, atI_nat (j := 0) rfl⟩, _, ⟨p, _, _, rfl, rfl, SqT.of hp, atI_nat (j := s.i) hqx⟩, ?_⟩
  refine ⟨_, rfl, _, ⟨q, _, _, rfl, rfl, SqT.of hq, atI_nat (j := 1) rfl⟩, rfl, _, rfl, ?_⟩
  refine ite2 (fun h1 => ?_) (fun h1 => ?_)
  · have h1 : s.d = 1 := by have := of_decide_eq_true h1; injection this
    refine ⟨_, rfl, _, ⟨qx, _, _, rfl, rfl, SqT.of hqx2, atI_nat (j := 0) rfl⟩, ?_⟩
    have e : frm x s.d = x.s := if_pos h1
    rw [← e]; exact k
  · have h1 : s.d ≠ 1 := fun z => h1 (decide_eq_true (by rw [z]))
    refine ⟨_, rfl, _, ⟨qx, _, _, rfl, rfl, SqT.of hqx2, atI_nat (j := 1) rfl⟩, ?_⟩
    have e : frm x s.d = x.g := if_neg h1
    rw [← e]; exact k
theorem scTo : FnScope ["net", "step", "span"] ["net", "step"] (defScope sTo) := ⟨rfl, rfl, rfl, by decide +kernel, rfl, by decide +kernel, by decide +kernel⟩
theorem ok_to {f : Addr} {fd : FuncData} (F : Fun K "leads_to" "leads_to" sTo f fd) : FnOk P w K mg base CX0 1 f fd ["net", "step"] spTo := by
  refine F.ok scTo (fun vs H Q E h => by obtain ⟨v, q, b, m, sp, s, x, rfl, _⟩ := h; rfl) (fun cdv A outer s0 H vs Q E hr h => ?_)
  obtain ⟨v, q, b, m, sp, s, x, rfl, hv, hq, hx, k⟩ := h
  obtain ⟨t, p, ys, rfl, ht, hp, hl, hy⟩ := netP_of hv
  obtain ⟨qx, hqx, hqx2⟩ := hy s.i x hx
  refine ⟨_, PSl.h (l_cons ⟨(ps_set (i := 2) scTo.nd rfl (Or.inl rfl) (pe_ix (ixNT K) (pe_ix (ixNT K) (pv 0) pe_int (fun _ _ => rfl)) (pe_ix (ixNT K) (pv 1) pe_int (fun _ _ => rfl)) (fun _ _ => rfl)))⟩
    (l_one ⟨(ps_ret (pe_ifExp (pt_cmpR op_eq (pe_ix (ixNT K) (pv 1) pe_int (fun _ _ => rfl)) pe_int (nomark _)) (pe_ix (ixNT K) (pv 2) pe_int (fun _ _ => rfl)) (pe_ix (ixNT K) (pv 2) pe_int (fun _ _ => rfl))))⟩)), ?_⟩
  refine ⟨_, rfl, _, ⟨t, _, _, rfl, rfl, SqT.of ht, atI_nat (j := 2) rfl⟩, _, rfl, _, ⟨q, _, _, rfl, rfl, SqT.of hq, atI_nat (j := 0) rfl⟩, _, ⟨p, _, _, rfl, rfl, SqT.of hp, atI_nat (j := s.i) hqx⟩, ?_⟩
  refine ⟨_, rfl, _, ⟨q, _, _, rfl, rfl, SqT.of hq, atI_nat (j := 1) rfl⟩, rfl, _, rfl, ?_⟩
  refine ite2 (fun h1 => ?_) (fun h1 => ?_)
  · have h1 : s.d = 1 := by have := of_decide_eq_true h1; injection this
    refine ⟨_, rfl, _, ⟨qx, _, _, rfl, rfl, SqT.of hqx2, atI_nat (j := 1) rfl⟩, ?_⟩
    have e : too x s.d = x.g := if_pos h1
    rw [← e]; exact k
  · have h1 : s.d ≠ 1 := fun z => h1 (decide_eq_true (by rw [z]))
    refine ⟨_, rfl, _, ⟨qx, _, _, rfl, rfl, SqT.of hqx2, atI_nat (j := 0) rfl⟩, ?_⟩
    have e : too x s.d = x.s := if_neg h1
    rw [← e]; exact k
end
end HN

/-! ends and sums of ways. -/
namespace HN
open PySem L2 PyProof.Rows
abbrev sEndsO : Stmt := top 20
abbrev sFirst : Stmt := top 21
abbrev sSum : Stmt := top 22
section
variable {P : Program} {w : World} {K : PySem.W.Frag} {mg : Str → Option Value} {base : Heap}
theorem scEndsO : FnScope ["net", "way"] ["net", "way"] (defScope sEndsO) := ⟨rfl, rfl, rfl, by decide +kernel, rfl, by decide +kernel, by decide +kernel⟩
theorem ok_endsO {f f1 f2 : Addr} {fd fd1 fd2 : FuncData} (F : Fun K "ends_of" "ends_of" sEndsO f fd) (G1 : Fn K mg "leads_from" sFrom ["net", "step"] f1 fd1) (G2 : Fn K mg "leads_to" sTo ["net", "step"] f2 fd2) : FnOk P w K mg base CX0 2 f fd ["net", "way"] spEndsO := by
  have F1 : FnOk P w K mg base CX0 1 f1 fd1 ["net", "step"] spFrom := ok_from G1.F
  have F2 : FnOk P w K mg base CX0 1 f2 fd2 ["net", "step"] spTo := ok_to G2.F
  refine F.ok scEndsO (fun vs H Q E h => by obtain ⟨v, u, b, m, sp, ws, s1, s2, rfl, _⟩ := h; rfl) (fun cdv A outer s H vs Q E hr h => ?_)
  obtain ⟨v, u, b, m, sp, ws, s1, s2, rfl, hv, hu, hin, h1, h2, k⟩ := h
  obtain ⟨p, ys, rfl, hp, hl, ry⟩ := rows_of hu
  obtain ⟨q1, e1, hq1⟩ := rows_at ry h1
  obtain ⟨q2, e2, hq2⟩ := rows_at ry h2
  obtain ⟨i1, d1⟩ := hin s1 (List.mem_of_getElem? h1)
  obtain ⟨i2, d2⟩ := hin s2 (List.mem_of_getElem? h2)
  refine ⟨_, PSl.h (l_one ⟨(ps_ret (pe_tupA (pa_cons (pc1 G1 F1 hr (pa_cons (pv 0) (pa_cons (pe_ix (ixNT K) (pv 1) pe_int (fun _ _ => rfl)) pa_nil))) (pa_cons (pc1 G2 F2 hr (pa_cons (pv 0) (pa_cons (pe_ix (ixNT K) (pv 1) (pe_un un_neg pe_int) (fun _ _ => rfl)) pa_nil))) pa_nil))))⟩), ?_⟩
  refine ⟨_, rfl, _, rfl, _, ⟨p, _, _, rfl, rfl, SqT.of hp, atI_nat (j := 0) e1⟩, v, q1, b, m, sp, s1, sp[s1.i], rfl, hv, hq1, List.getElem?_eq_getElem i1, ?_⟩
  refine ⟨_, rfl, _, rfl, _, rfl, _, ⟨p, _, _, rfl, rfl, SqT.of hp, atI_last (by rw [hl]; exact e2)⟩, v, q2, b, m, sp, s2, sp[s2.i], rfl, hv, hq2, List.getElem?_eq_getElem i2, ?_⟩
  refine ⟨(by show 2 ≤ sizeLine; decide), fun p3 H3 S3 h3 => k p3 H3 S3 ?_⟩
  rw [h3]
  unfold frmS tooS
  rw [List.getElem?_eq_getElem i1, List.getElem?_eq_getElem i2]
theorem scFirst : FnScope ["net"] ["net"] (defScope sFirst) := ⟨rfl, rfl, rfl, by decide +kernel, rfl, by decide +kernel, by decide +kernel⟩
theorem ok_first {f : Addr} {fd : FuncData} (F : Fun K "first_bounds" "first_bounds" sFirst f fd) (T : Nm mg) : FnOk P w K mg base CX0 1 f fd ["net"] spFirst := by
  refine F.ok scFirst (fun vs H Q E h => by obtain ⟨v, b, m, sp, rfl, _⟩ := h; rfl) (fun cdv A outer s H vs Q E hr h => ?_)
  obtain ⟨v, b, m, sp, rfl, hv, few, k⟩ := h
  obtain ⟨t, p, ys, rfl, ht, hp, hl, hy⟩ := netP_of hv
  refine ⟨_, PSl.h (l_one ⟨(ps_ret (pe_callTy (tupN K) rfl T.ttup boot_tuple (pa_cons (pe_comp (fr := []) (js := []) rfl (piNT K (pe_ix (ixNT K) (pv 0) pe_int (fun _ _ => rfl))) (by decide +kernel) rfl (by decide +kernel) rfl (by show ∀ y : Str × NameKind, y ∈ _ → y.2 = NameKind.free → List.lookup y.1 (defScope sFirst).names = some NameKind.cell; decide +kernel) (by decide +kernel) rfl (by decide +kernel) (fun _ _ _ _ _ => ⟨(pe_tupA (pa_cons (pe_ix (r := rIxT K) ix_tup (pv 0) pe_int (fun _ _ => rfl)) (pa_cons (pe_ix (r := rIxT K) ix_tup (pv 0) pe_int (fun _ _ => rfl)) pa_nil))), pts_nil⟩)) pa_nil)))⟩), ?_⟩
  refine ⟨_, rfl, _, ⟨t, _, _, rfl, rfl, SqT.of ht, atI_nat (j := 2) rfl⟩, p, rfl, ⟨_, SqT.of hp⟩, ?_⟩
  refine comp_tup (K := K) (a := p) (xs := ys) (fun i zs H2 => Same H H2 ∧ IsDs H2 zs (((sp.take i).map fun x => (x.l, x.o)).map fun x => .tup ((bndR x).map Dt.int))) ⟨Same.refl H, .nil⟩ (fun i zs H2 hi ⟨e1, e2⟩ => ?_) (by rw [hl]; exact small_le few) (fun i x zs H2 hx ⟨e1, e2⟩ => ?_) (fun zs H2 ⟨e1, e2⟩ D hD => ?_)
  · refine ⟨SqT.of (e1 _ _ hp), ?_⟩
    rw [e2.length, List.length_map, List.length_map, List.length_take]; omega
  · have hi : i < sp.length := by rw [← hl]; exact (List.getElem?_eq_some_iff.mp hx).1
    obtain ⟨q, hq, hq2⟩ := hy i sp[i] (List.getElem?_eq_getElem hi)
    rw [hx] at hq
    cases hq
    have hq3 := e1 _ _ hq2
    refine tNoIf_go ?_
    refine ⟨_, rfl, _, ⟨q, _, _, rfl, rfl, SqT.of hq3, atI_nat (j := 2) rfl⟩, _, rfl, _, ⟨q, _, _, rfl, rfl, SqT.of hq3, atI_nat (j := 3) rfl⟩, (by show 2 ≤ sizeLine; decide), fun q4 H4 S4 h4 => ⟨e1.trans S4, ?_⟩⟩
    rw [List.take_add_one, List.getElem?_eq_getElem hi, List.map_append, List.map_append]
    exact (e2.same S4).append (.cons (.tup h4 (IsDs.ints [sp[i].l, sp[i].o])) .nil)
  · refine ⟨D, _, rfl, SqL.of upd_same, fun p3 H3 S3 h3 => ?_⟩
    have S23 := (Same.put (o := .lst zs) (Same.refl H2) hD).trans S3
    refine k (.ref p3) H3 (e1.trans S23) (.tup h3 ?_)
    rw [hl, List.take_length] at e2
    exact e2.same S23
theorem scSum : FnScope ["bounds", "way", "low", "high", "step", "bound"] ["bounds", "way"] (defScope sSum) := ⟨rfl, rfl, rfl, by decide +kernel, rfl, by decide +kernel, by decide +kernel⟩
theorem ok_sum {f : Addr} {fd : FuncData} (F : Fun K "sum_of" "sum_of" sSum f fd) : FnOk P w K mg base CX0 1 f fd ["bounds", "way"] spSum := by
  refine F.ok scSum (fun vs H Q E h => by obtain ⟨vb, vw, bs, ws, rfl, _⟩ := h; rfl) (fun cdv A outer s H vs Q E hr h => ?_)
  obtain ⟨vb, vw, bs, ws, rfl, hb, hw, hin, k⟩ := h
  obtain ⟨pb, yb, rfl, hpb, hlb, rb⟩ := rows_of hb
  obtain ⟨pw, yw, rfl, hpw, hlw, rw'⟩ := rows_of hw
  refine ⟨_, PSl.h (l_cons ⟨(ps_set (i := 2) scSum.nd rfl (Or.inl rfl) pe_int)⟩
    (l_cons ⟨(ps_set (i := 3) scSum.nd rfl (Or.inl rfl) pe_int)⟩
    (l_cons ⟨(ps_for PassesOwn.never rfl (piNT K (pv 1)) (pg_name (i := 4) scSum.nd rfl (Or.inl rfl)) (PSl.h (l_cons ⟨(ps_set (i := 5) scSum.nd rfl (Or.inl rfl) (pe_ix (ixNT K) (pv 0) (pe_ix (ixNT K) (pv 4) pe_int (fun _ _ => rfl)) (fun _ _ => rfl)))⟩
    (l_one ⟨(ps_if (pt_cmpR op_eq (pe_ix (ixNT K) (pv 4) pe_int (fun _ _ => rfl)) pe_int (nomark _)) (PSl.h (l_cons ⟨(ps_aug (i := 2) scSum.nd rfl (Or.inl rfl) (pe_ix (ixNT K) (pv 5) pe_int (fun _ _ => rfl)) ip_add)⟩
    (l_one ⟨(ps_aug (i := 3) scSum.nd rfl (Or.inl rfl) (pe_ix (ixNT K) (pv 5) pe_int (fun _ _ => rfl)) ip_add)⟩))) (PSl.h (l_cons ⟨(ps_aug (i := 2) scSum.nd rfl (Or.inl rfl) (pe_ix (ixNT K) (pv 5) pe_int (fun _ _ => rfl)) ip_sub)⟩
    (l_one ⟨(ps_aug (i := 3) scSum.nd rfl (Or.inl rfl) (pe_ix (ixNT K) (pv 5) pe_int (fun _ _ => rfl)) ip_sub)⟩))))⟩))))⟩
    (l_one ⟨(ps_ret (pe_tupA (pa_cons (pv 2) (pa_cons (pv 3) pa_nil))))⟩)))), ?_⟩
  refine ⟨_, rfl, pw, rfl, ⟨_, SqT.of hpw⟩, ?_⟩
  refine for_tup (K := K) (xs := yw) (fun i σ H2 => H2 = H ∧ ∃ v4 v5, σ = [some (.ref pb), some (.ref pw), some (.int (sumLo bs (ws.take i))), some (.int (sumHi bs (ws.take i))), v4, v5]) ⟨rfl, none, none, rfl⟩ (fun i σ H2 _ ⟨e1, _⟩ => by rw [e1]; exact SqT.of hpw) ?_ ?_
  · rintro i y σ H2 hy ⟨rfl, v4, v5, rfl⟩
    have hi : i < ws.length := by rw [← hlw]; exact (List.getElem?_eq_some_iff.mp hy).1
    obtain ⟨q, hq, hq2⟩ := rows_at rw' (List.getElem?_eq_getElem hi)
    rw [hy] at hq
    cases hq
    obtain ⟨i1, d1⟩ := hin ws[i] (List.getElem_mem hi)
    have hm1 : sumLo bs (ws.take (i + 1)) = sumLo bs (ws.take i) + lowS bs ws[i] := by
      unfold sumLo
      rw [List.take_add_one, List.getElem?_eq_getElem hi, List.map_append, List.sum_append]; simp
    have hm2 : sumHi bs (ws.take (i + 1)) = sumHi bs (ws.take i) + highS bs ws[i] := by
      unfold sumHi
      rw [List.take_add_one, List.getElem?_eq_getElem hi, List.map_append, List.sum_append]; simp
    obtain ⟨qb, hqb, hqb2⟩ := rows_at rb (List.getElem?_eq_getElem i1)
    refine ⟨_, rfl, _, rfl, _, ⟨q, _, _, rfl, rfl, SqT.of hq2, atI_nat (j := 0) rfl⟩, _, ⟨pb, _, _, rfl, rfl, SqT.of hpb, atI_nat (j := ws[i].i) hqb⟩, ?_⟩
    refine ⟨_, rfl, _, ⟨q, _, _, rfl, rfl, SqT.of hq2, atI_nat (j := 1) rfl⟩, rfl, _, rfl, ?_⟩
    refine ite2 (fun h1 => ?_) (fun h1 => ?_)
    · have h1 : ws[i].d = 1 := by have := of_decide_eq_true h1; injection this
      refine ⟨_, rfl, _, rfl, _, ⟨qb, _, _, rfl, rfl, SqT.of hqb2, atI_nat (j := 0) rfl⟩, _, _, rfl, rfl, ?_⟩
      refine ⟨_, rfl, _, rfl, _, ⟨qb, _, _, rfl, rfl, SqT.of hqb2, atI_nat (j := 1) rfl⟩, _, _, rfl, rfl, rfl, some (.ref q), some (.ref qb), ?_⟩
      have l1 : lowS bs ws[i] = bs[ws[i].i].1 := by unfold lowS; rw [List.getElem?_eq_getElem i1]; exact if_pos h1
      have l2 : highS bs ws[i] = bs[ws[i].i].2 := by unfold highS; rw [List.getElem?_eq_getElem i1]; exact if_pos h1
      rw [hm1, hm2, l1, l2]; rfl
    · have h1 : ws[i].d ≠ 1 := fun z => h1 (decide_eq_true (by rw [z]))
      refine ⟨_, rfl, _, rfl, _, ⟨qb, _, _, rfl, rfl, SqT.of hqb2, atI_nat (j := 1) rfl⟩, _, _, rfl, rfl, ?_⟩
      refine ⟨_, rfl, _, rfl, _, ⟨qb, _, _, rfl, rfl, SqT.of hqb2, atI_nat (j := 0) rfl⟩, _, _, rfl, rfl, rfl, some (.ref q), some (.ref qb), ?_⟩
      have l1 : lowS bs ws[i] = -bs[ws[i].i].2 := by unfold lowS; rw [List.getElem?_eq_getElem i1]; exact if_neg h1
      have l2 : highS bs ws[i] = -bs[ws[i].i].1 := by unfold highS; rw [List.getElem?_eq_getElem i1]; exact if_neg h1
      rw [hm1, hm2, l1, l2, ← Int.sub_eq_add_neg, ← Int.sub_eq_add_neg]; rfl
  · rintro σ H2 ⟨rfl, v4, v5, rfl⟩
    rw [hlw, List.take_length]
    exact ⟨_, rfl, _, rfl, (by show 2 ≤ sizeLine; decide), fun p3 H3 S3 h3 => k p3 H3 S3 h3⟩
end
end HN

/-! is it a step, a way, a ring. -/
namespace HN
open PySem L2 PyProof.Rows
abbrev sStep : Stmt := top 16
abbrev sWay : Stmt := top 19
theorem cut_one {xs : List V} : cutV xs (some 1) none = xs.drop 1 := by
  unfold cutV
  cases xs with
  | nil => rfl
  | cons x xs =>
    have e1 : HT.sIx (x :: xs).length 0 (some 1) = 1 := by
      have := HT.sIx_nat (x :: xs).length 0 1
      rw [show ((1 : Nat) : Int) = 1 from rfl] at this
      rw [this, List.length_cons]; omega
    rw [e1]
    show ((x :: xs).drop 1).take ((x :: xs).length - 1) = _
    rw [List.take_of_length_le (by simp)]
section
variable {P : Program} {w : World} {K : PySem.W.Frag} {mg : Str → Option Value} {base : Heap}
theorem scStep : FnScope ["net", "thing"] ["net", "thing"] (defScope sStep) := ⟨rfl, rfl, rfl, by decide +kernel, rfl, by decide +kernel, by decide +kernel⟩
theorem ok_step {f f1 f2 : Addr} {fd fd1 fd2 : FuncData} (F : Fun K "is_step" "is_step" sStep f fd) (T : Nm mg) (G1 : Fn K mg "is_within" sWithin ["thing", "low", "high"] f1 fd1) (G2 : Fn K mg "is_whole" sWhole ["thing"] f2 fd2) : FnOk P w K mg base CX0 3 f fd ["net", "thing"] spStep := by
  have F1 : FnOk P w K mg base CX0 2 f1 fd1 ["thing", "low", "high"] spWithin := ok_within G1.F T G2
  refine F.ok scStep (fun vs H Q E h => by obtain ⟨v, u, b, m, sp, d, rfl, _⟩ := h; rfl) (fun cdv A outer s H vs Q E hr h => ?_)
  obtain ⟨v, u, b, m, sp, d, rfl, hv, hd, k⟩ := h
  obtain ⟨t, pn, ys, rfl, ht, hpn, hl, hy⟩ := netP_of hv
  refine ⟨_, PSl.h (l_cons ⟨(ps_if (PW.pt (pw_or (pt_not (pt_val (pe_isTup T (pv 1)))) (pw_or1 (pt_cmpR op_ne (pe_callB (lenN K) rfl T.len PySem.boot_len (pa_cons (pv 1) pa_nil)) pe_int (nomark _))))) (pss_one (ps_ret pe_bl)) pss_nil)⟩
    (l_cons ⟨(ps_if (pt_not (pt_val (pc1 G1 F1 hr (pa_cons (pe_ix (ixNT K) (pv 1) pe_int (fun _ _ => rfl)) (pa_cons pe_int (pa_cons (pe_op op_sub (pe_callB (lenN K) rfl T.len PySem.boot_len (pa_cons (pe_ix (ixNT K) (pv 0) pe_int (fun _ _ => rfl)) pa_nil)) pe_int) pa_nil)))))) (pss_one (ps_ret pe_bl)) pss_nil)⟩
    (l_one ⟨(ps_ret (pe_and (pc1 G1 F1 hr (pa_cons (pe_ix (ixNT K) (pv 1) pe_int (fun _ _ => rfl)) (pa_cons (pe_un un_neg pe_int) (pa_cons pe_int pa_nil)))) (pe_one (pe_cmpR op_ne (pe_ix (ixNT K) (pv 1) pe_int (fun _ _ => rfl)) pe_int (nomark _)))))⟩))), ?_⟩
  by_cases hT : d.ty = "tuple"
  · obtain ⟨ds, rfl⟩ : ∃ ds, d = .tup ds := by
      cases d with
      | tup ds => exact ⟨ds, rfl⟩
      | oth T => cases hd <;> simp [Dt.ty] at hT
      | _ => simp [Dt.ty] at hT
    obtain ⟨p, xs, rfl, hp, rx⟩ := hd.tup_of
    have lx := rx.length
    refine ⟨_, rfl, _, _, rfl, hd.tyn, _, rfl, iteC rfl ?_⟩
    refine ⟨_, rfl, p, _, rfl, .inr (SqT.of hp), rfl, _, rfl, ?_⟩
    by_cases h2 : ds.length = 2
    · refine iteC (by rw [lx, h2]; rfl) ?_
      obtain ⟨d0, d1, rfl⟩ : ∃ a b, ds = [a, b] := by
        match ds, h2 with
        | [a, b], _ => exact ⟨a, b, rfl⟩
      cases rx with
      | cons r0 rr =>
        cases rr with
        | cons r1 rr =>
          cases rr
          rename_i x0 x1
          have e : stepB sp.length (.tup [d0, d1]) = (inD d0 0 ((sp.length : Int) - 1) && (inD d1 (-1) 1 && !(match d1 with | .int k => decide (k = 0) | _ => false))) := by
            unfold stepB
            cases d0 <;> cases d1 <;> first | rfl | skip
            all_goals try (simp [stepD, inD]; done)
            rename_i i j
            show (if 0 ≤ i ∧ i ≤ (sp.length : Int) - 1 ∧ (j = 1 ∨ j = -1) then some (⟨i.toNat, j⟩ : Stp) else none).isSome = ((decide (0 ≤ i) && decide (i ≤ (sp.length : Int) - 1)) && ((decide (-1 ≤ j) && decide (j ≤ 1)) && !decide (j = 0)))
            by_cases c1 : 0 ≤ i ∧ i ≤ (sp.length : Int) - 1 ∧ (j = 1 ∨ j = -1)
            · rw [if_pos c1, decide_eq_true c1.1, decide_eq_true c1.2.1, decide_eq_true (by omega : -1 ≤ j), decide_eq_true (by omega : j ≤ 1), decide_eq_false (by omega : ¬ j = 0)]; rfl
            · rw [if_neg c1]
              symm
              show _ = false
              rw [Bool.eq_false_iff]
              intro z
              simp only [Bool.and_eq_true, decide_eq_true_eq, Bool.not_eq_true', decide_eq_false_iff_not] at z
              exact c1 ⟨z.1.1, z.1.2, by omega⟩
          rw [e] at k
          refine ⟨_, rfl, _, ⟨p, _, _, rfl, rfl, SqT.of hp, atI_nat (j := 0) rfl⟩, _, rfl, _, ⟨t, _, _, rfl, rfl, SqT.of ht, atI_nat (j := 2) rfl⟩, pn, _, rfl, .inr (SqT.of hpn), x0, 0, _, rfl, ⟨_, r0.tyn⟩, _, rfl, ?_⟩
          rw [hl, inI_inD _ _ r0]
          cases q0 : inD d0 0 ((sp.length : Int) - 1) with
          | false => rw [q0] at k; exact iteT k
          | true =>
            rw [q0, Bool.true_and] at k
            refine iteF ?_
            refine ⟨_, rfl, _, ⟨p, _, _, rfl, rfl, SqT.of hp, atI_nat (j := 1) rfl⟩, _, rfl, x1, -1, 1, rfl, ⟨_, r1.tyn⟩, _, rfl, ?_⟩
            rw [inI_inD _ _ r1]
            cases q1 : inD d1 (-1) 1 with
            | false => rw [q1] at k; exact iteF k
            | true =>
              rw [q1, Bool.true_and] at k
              obtain ⟨kk, rfl⟩ : ∃ kk, d1 = .int kk := by
                cases d1 with
                | int kk => exact ⟨kk, rfl⟩
                | _ => simp [inD] at q1
              have ex := r1.int_of
              subst ex
              refine iteT ⟨_, rfl, _, ⟨p, _, _, rfl, rfl, SqT.of hp, atI_nat (j := 1) rfl⟩, rfl, ?_⟩
              have e3 : (!decide (V.int kk = V.int 0)) = !(decide (kk = 0)) := by
                congr 1
                exact decide_eq_decide.mpr ⟨fun z => by injection z, fun z => by rw [z]⟩
              rw [e3]; exact k
    · refine iteB ?_ ?_
      · rw [lx, decide_eq_false (fun z => h2 (by injection z with z; omega))]; rfl
      · have e : stepB sp.length (.tup ds) = false := stepB_len h2
        rw [← e]; exact k
  · refine ⟨_, rfl, _, _, rfl, hd.tyn, _, rfl, iteB ?_ ?_⟩
    · have : (d.ty == "tuple") = false := by simpa using hT
      rw [this]; rfl
    · have e : stepB sp.length d = false := by
        cases d with
        | tup ds => exact absurd rfl hT
        | _ => rfl
      rw [← e]; exact k
theorem scWay : FnScope ["net", "thing"] ["net", "thing"] (defScope sWay) := ⟨rfl, rfl, rfl, by decide +kernel, rfl, by decide +kernel, by decide +kernel⟩
theorem ok_way {f f1 f2 f3 : Addr} {fd fd1 fd2 fd3 : FuncData} (F : Fun K "is_way" "is_way" sWay f fd) (T : Nm mg) (T2 : Nt mg) (G1 : Fn K mg "is_step" sStep ["net", "thing"] f1 fd1) (F1 : FnOk P w K mg base CX0 3 f1 fd1 ["net", "thing"] spStep) (G2 : Fn K mg "leads_from" sFrom ["net", "step"] f2 fd2) (G3 : Fn K mg "leads_to" sTo ["net", "step"] f3 fd3) : FnOk P w K mg base CX0 4 f fd ["net", "thing"] spWayP := by
  have F2 : FnOk P w K mg base CX0 1 f2 fd2 ["net", "step"] spFrom := ok_from G2.F
  have F3 : FnOk P w K mg base CX0 1 f3 fd3 ["net", "step"] spTo := ok_to G3.F
  refine F.ok scWay (fun vs H Q E h => by obtain ⟨v, u, b, m, sp, d, rfl, _⟩ := h; rfl) (fun cdv A outer s H vs Q E hr h => ?_)
  obtain ⟨v, u, b, m, sp, d, rfl, hv, hd, fine, k⟩ := h
  have hr1 : Room 1 _ := hr.mono (by decide)
  refine ⟨_, PSl.h (l_cons ⟨(ps_if (PW.pt (pw_or (pt_not (pt_val (pe_isTup T (pv 1)))) (pw_or1 (pt_cmpR op_eq (pe_callB (lenN K) rfl T.len PySem.boot_len (pa_cons (pv 1) pa_nil)) pe_int (nomark _))))) (pss_one (ps_ret pe_bl)) pss_nil)⟩
    (l_cons ⟨(ps_if (pt_not (pt_val (pe_callB (call_all rfl) rfl T.all boot_all (pa_cons (pe_comp (fr := ["net"]) (js := [0]) rfl (piNT K (pv 1)) (by decide +kernel) rfl (by decide +kernel) rfl (by show ∀ y : Str × NameKind, y ∈ _ → y.2 = NameKind.free → List.lookup y.1 (defScope sWay).names = some NameKind.cell; decide +kernel) (by decide +kernel) rfl (by decide +kernel) (fun _ _ _ _ _ => ⟨(pc1 G1 F1 hr (pa_cons (pv 1) (pa_cons (pv 0) pa_nil))), pts_nil⟩)) pa_nil)))) (pss_one (ps_ret pe_bl)) pss_nil)⟩
    (l_one ⟨(ps_ret (pe_callB (call_all rfl) rfl T.all boot_all (pa_cons (pe_compT (xs := ["one", "other"]) (fr := ["net"]) (js := [0]) rfl (pi_zipT rfl T2.zip (pa_cons (pv 1) (pa_cons (pe_slice sl_tupN (pv 1) (po_some pe_int) po_none) pa_nil))) (by decide +kernel) rfl (by decide +kernel) (by show ∀ y : Str × NameKind, y ∈ _ → y.2 = NameKind.free → List.lookup y.1 (defScope sWay).names = some NameKind.cell; decide +kernel) rfl (by decide +kernel) (fun _ _ _ _ _ => pg_two rfl (by decide +kernel) rfl rfl) (fun _ _ _ _ _ => ⟨(pe_cmpR op_eq (pc1 G3 F3 hr1 (pa_cons (pv 2) (pa_cons (pv 0) pa_nil))) (pc1 G2 F2 hr1 (pa_cons (pv 2) (pa_cons (pv 1) pa_nil))) (nomark _)), pts_nil⟩)) pa_nil)))⟩))), ?_⟩
  by_cases hT : d.ty = "tuple"
  · obtain ⟨ds, rfl⟩ : ∃ ds, d = .tup ds := by
      cases d with
      | tup ds => exact ⟨ds, rfl⟩
      | oth T => cases hd <;> simp [Dt.ty] at hT
      | _ => simp [Dt.ty] at hT
    obtain ⟨p, xs, rfl, hp, rx⟩ := hd.tup_of
    have lx := rx.length
    have few := (fine ds rfl).1
    refine ⟨_, rfl, _, _, rfl, hd.tyn, _, rfl, iteC rfl ?_⟩
    refine ⟨_, rfl, p, _, rfl, .inr (SqT.of hp), rfl, _, rfl, ?_⟩
    by_cases h0 : ds = []
    · refine iteB (by rw [lx, h0]; rfl) ?_
      have e : wayB sp (.tup ds) = false := by rw [h0]; rfl
      rw [← e]; exact k H (Same.refl H)
    refine iteC (by rw [lx, decide_eq_false (fun z => h0 (List.length_eq_zero_iff.mp (by injection z with z; omega)))]) ?_
    have e0 : ds.isEmpty = false := by cases ds with
      | nil => exact absurd rfl h0
      | cons _ _ => rfl
    -- all are steps
    refine ⟨_, rfl, p, rfl, ⟨_, SqT.of hp⟩, ?_⟩
    refine comp_tup (K := K) (a := p) (xs := xs) (fun i zs H2 => H2 = H ∧ zs = ((ds.take i).map (stepB sp.length)).map V.bl) ⟨rfl, rfl⟩ (fun i zs H2 hi ⟨e1, e2⟩ => ?_) (by rw [lx]; exact small_le few) (fun i x zs H2 hx ⟨e1, e2⟩ => ?_) (fun zs H2 ⟨e1, e2⟩ D hD => ?_)
    · subst e1
      refine ⟨SqT.of hp, ?_⟩
      rw [e2, List.length_map, List.length_map, List.length_take]; omega
    · subst e1
      obtain ⟨d', hd', dx⟩ := rx.get hx
      refine tNoIf_go ?_
      refine ⟨_, rfl, _, rfl, v, x, b, m, sp, d', rfl, hv, dx, rfl, ?_⟩
      rw [e2, List.take_add_one, hd', List.map_append, List.map_append]; rfl
    subst e1
    refine ⟨D, ds.map (stepB sp.length), rfl, SqL.of ?_, _, rfl, ?_⟩
    · rw [upd_same, e2, lx, List.take_length]
    have eA : (ds.map (stepB sp.length)).all id = ds.all (stepB sp.length) := by rw [List.all_map]; rfl
    rw [eA]
    have S3 := Same.put (o := .lst zs) (Same.refl H2) hD
    generalize upd H2 D (.lst zs) = H3 at S3 ⊢
    cases qA : ds.all (stepB sp.length) with
    | false =>
      refine iteT ?_
      have e : wayB sp (.tup ds) = false := by
        show (!ds.isEmpty && (ds.all (stepB sp.length) && _)) = false
        rw [qA, Bool.false_and, Bool.and_false]
      rw [← e]; exact k H3 S3
    | true =>
      refine iteF ?_
      obtain ⟨ss, rfl, hs⟩ := all_steps ds qA
      have eW : wayB sp (.tup (rowsD Stp.row ss)) = zipB sp ss := by
        show (!(rowsD Stp.row ss).isEmpty && ((rowsD Stp.row ss).all (stepB sp.length) && zipB sp ((rowsD Stp.row ss).filterMap (stepD sp.length)))) = _
        rw [e0, (rows_steps ss hs).1, (rows_steps ss hs).2]; rfl
      rw [eW] at k
      have lxs : xs.length = ss.length := by rw [lx, List.length_map]
      refine ⟨_, rfl, _, rfl, _, rfl, p, _, rfl, S3 _ _ hp, fun p4 H4 S4 h4 => ?_⟩
      rw [cut_one] at h4
      have S24 := S3.trans S4
      refine ⟨p, p4, _, _, rfl, S24 _ _ hp, h4, ?_⟩
      refine compT_zip (K := K) (a := p) (b := p4) (xs := xs) (ys := xs.drop 1) (fun i zs H5 => Same H4 H5 ∧ zs = (((ss.zip ss.tail).take i).map fun q => decide (tooS sp q.1 = frmS sp q.2)).map V.bl) ⟨Same.refl _, rfl⟩ (fun i zs H5 hi ⟨e1, e2⟩ => ?_) (by rw [lx]; exact small_le few) (fun i x y zs p5 H5 hx hy ⟨e1, e2⟩ hp5 => ?_) (fun zs H5 ⟨e1, e2⟩ D5 hD5 => ?_)
      · refine ⟨e1 _ _ (S24 _ _ hp), e1 _ _ h4, ?_⟩
        rw [e2, List.length_map, List.length_map, List.length_take]; omega
      · have hi : i < ss.length := by rw [← lxs]; exact (List.getElem?_eq_some_iff.mp hx).1
        rw [List.getElem?_drop, Nat.add_comm] at hy
        have hi1 : i + 1 < ss.length := by rw [← lxs]; exact (List.getElem?_eq_some_iff.mp hy).1
        obtain ⟨q1, f1, g1⟩ := rows_at rx (List.getElem?_eq_getElem hi)
        obtain ⟨q2, f2, g2⟩ := rows_at rx (List.getElem?_eq_getElem hi1)
        rw [hx] at f1
        rw [hy] at f2
        cases f1
        cases f2
        have S5 := e1.put (o := .tup [.ref q1, .ref q2]) hp5
        have S25 := S24.trans S5
        obtain ⟨i1, d1⟩ := hs ss[i] (List.getElem_mem hi)
        obtain ⟨i2, d2⟩ := hs ss[i + 1] (List.getElem_mem hi1)
        refine tNoIf_go ?_
        refine ⟨_, rfl, _, rfl, v, q1, b, m, sp, ss[i], sp[ss[i].i], rfl, hv.same S25, S25 _ _ g1, List.getElem?_eq_getElem i1, ?_⟩
        refine ⟨_, rfl, _, rfl, v, q2, b, m, sp, ss[i + 1], sp[ss[i + 1].i], rfl, hv.same S25, S25 _ _ g2, List.getElem?_eq_getElem i2, rfl, S5, ?_⟩
        have hz : (ss.zip ss.tail)[i]? = some (ss[i], ss[i + 1]) := by
          rw [List.getElem?_zip_eq_some]
          exact ⟨List.getElem?_eq_getElem hi, by rw [List.getElem?_tail]; exact List.getElem?_eq_getElem hi1⟩
        have eb : decide (V.int (too sp[ss[i].i] ss[i].d) = V.int (frm sp[ss[i + 1].i] ss[i + 1].d)) = decide (tooS sp ss[i] = frmS sp ss[i + 1]) := by
          have u1 : tooS sp ss[i] = too sp[ss[i].i] ss[i].d := by unfold tooS; rw [List.getElem?_eq_getElem i1]
          have u2 : frmS sp ss[i + 1] = frm sp[ss[i + 1].i] ss[i + 1].d := by unfold frmS; rw [List.getElem?_eq_getElem i2]
          rw [u1, u2]
          exact decide_eq_decide.mpr ⟨fun z => by injection z, fun z => by rw [z]⟩
        rw [e2, eb, List.take_add_one, hz, List.map_append, List.map_append]; rfl
      · refine ⟨D5, (ss.zip ss.tail).map fun q => decide (tooS sp q.1 = frmS sp q.2), rfl, SqL.of ?_, ?_⟩
        · rw [upd_same, e2, List.take_of_length_le (by rw [List.length_zip, List.length_tail, List.length_drop]; omega)]
        · have e : ((ss.zip ss.tail).map fun q => decide (tooS sp q.1 = frmS sp q.2)).all id = zipB sp ss := by rw [List.all_map]; rfl
          rw [e]; exact k _ (S24.trans (e1.put hD5))
  · refine ⟨_, rfl, _, _, rfl, hd.tyn, _, rfl, iteB ?_ ?_⟩
    · have : (d.ty == "tuple") = false := by simpa using hT
      rw [this]; rfl
    · have e : wayB sp d = false := by
        cases d with
        | tup ds => exact absurd rfl hT
        | _ => rfl
      rw [← e]; exact k H (Same.refl H)
end
end HN

/-! a way told as one span more; its refusals, each just where it is due. -/
namespace HN
open PySem L2 PyProof.Rows
abbrev sOver : Stmt := top 26
abbrev sSummed : Stmt := top 27
def spOverX (C : Addr) : Sp := fun vs H Q E => ∃ (v u : V) (b m : Int) (sp : List Sn) (ws : List Stp), vs = [v, u] ∧ IsD H v (netP b m sp) ∧ IsD H u (wayP ws) ∧ 0 < b ∧ sp.length ≤ 1000 ∧ ws ≠ [] ∧ WayIn sp.length ws ∧
  (b ≤ sumHi (bnds sp) ws - sumLo (bnds sp) ws → ∀ H', Same H H' → E (.ref C) none H') ∧ (sumHi (bnds sp) ws - sumLo (bnds sp) ws < b → ∀ p H', Same H H' → H' p = some (.tup ((overS b sp ws).row.map V.int)) → Q (.ref p) H')
def spSummedX (C1 C2 C3 : Addr) : Sp := fun vs H Q E => ∃ (v u : V) (b m : Int) (sp : List Sn) (d : Dt), vs = [v, u] ∧ IsD H v (netP b m sp) ∧ IsD H u d ∧ Fine d ∧ 0 < b ∧ sp.length ≤ 40 ∧
  (wayB sp d = false → ∀ H', Same H H' → E (.ref C1) none H') ∧
  ∀ ws, d = wayP ws → WayIn sp.length ws → ws ≠ [] → zipB sp ws = true →
    (fstB sp ws = lstB sp ws → ∀ H', Same H H' → E (.ref C1) none H') ∧
    (fstB sp ws ≠ lstB sp ws → b ≤ sumHi (bnds sp) ws - sumLo (bnds sp) ws → ∀ H', Same H H' → E (.ref C2) none H') ∧
    (fstB sp ws ≠ lstB sp ws → sumHi (bnds sp) ws - sumLo (bnds sp) ws < b → 40 < sp.length + 1 → XE C3 (sp.length + 1 : Nat) 40 E H) ∧
    (fstB sp ws ≠ lstB sp ws → sumHi (bnds sp) ws - sumLo (bnds sp) ws < b → sp.length + 1 ≤ 40 → ∀ u' H', Same H H' → IsD H' u' (netP b m (sp ++ [overS b sp ws])) → Q u' H')
theorem way_of {sp : List Sn} {d : Dt} (h : wayB sp d = true) : ∃ ws, d = wayP ws ∧ WayIn sp.length ws ∧ ws ≠ [] ∧ zipB sp ws = true := by
  cases d with
  | tup ds =>
    have h' : (!ds.isEmpty && (ds.all (stepB sp.length) && zipB sp (ds.filterMap (stepD sp.length)))) = true := h
    rw [Bool.and_eq_true, Bool.and_eq_true] at h'
    obtain ⟨ss, rfl, hin⟩ := all_steps ds h'.2.1
    obtain ⟨hne, hz⟩ := way_split hin h
    exact ⟨ss, rfl, hin, hne, hz⟩
  | _ => exact Bool.noConfusion (show false = true from h)
theorem pcX {X : Cx} {E : XK} {k : Nat} {f : Addr} {fd : FuncData} {ps : List Str} {sp : Sp} {x : Str} {st : Stmt} {p pos : Pos} {e : Expr} {es : List Expr} {t : TA} (G : Fn X.K X.mg x st ps f fd) (F : FnOk X.prog X.w X.K X.mg X.base (CXN X.prog X.w) k f fd ps sp) (hr : Room k X.A) (hx : Passes (CXN X.prog X.w) X E)
    (ha : PA X (e :: es) t) (hg : Gl X x := by rfl) (hdb : (x == ("__debug__" : Str)) = false := by decide) (he : starEach (e :: es) X.env = (false, eval e X.env) :: starEach es X.env := by rfl) (hpl : (backTo pos (starEach es X.env)).any (·.1) = false := by rfl) :
    PE X (.Call (.Name x p) (e :: es) [] pos) (tCall sp [] E t) := pe_call F hr hg G.mg G.F.kp G.b .nil hx ha hdb he hpl
section
variable {P : Program} {w : World} {K : PySem.W.Frag} {mg : Str → Option Value} {base : Heap}
theorem scOver : FnScope ["net", "way", "ends", "bound", "width", "least"] ["net", "way"] (defScope sOver) := ⟨rfl, rfl, rfl, by decide +kernel, rfl, by decide +kernel, by decide +kernel⟩
theorem ok_overX {f f1 f2 f3 f4 c : Addr} {fd fd1 fd2 fd3 fd4 : FuncData} (F : Fun K "span_over" "span_over" sOver f fd) (TE : Exc K mg "TooWide" c)
    (G1 : Fn K mg "ends_of" sEndsO ["net", "way"] f1 fd1) (F1 : FnOk P w K mg base CX0 2 f1 fd1 ["net", "way"] spEndsO)
    (G2 : Fn K mg "sum_of" sSum ["bounds", "way"] f2 fd2) (F2 : FnOk P w K mg base CX0 1 f2 fd2 ["bounds", "way"] spSum)
    (G3 : Fn K mg "first_bounds" sFirst ["net"] f3 fd3) (F3 : FnOk P w K mg base CX0 1 f3 fd3 ["net"] spFirst)
    (G4 : Fn K mg "rest_by" sRest ["beat", "number"] f4 fd4) (F4 : FnOk P w K mg base CX0 1 f4 fd4 ["beat", "number"] spRest) : FnOk P w K mg base (CXN P w) 3 f fd ["net", "way"] (spOverX c) := by
  refine F.okX scOver (fun vs H Q E h => by obtain ⟨v, u, b, m, sp, ws, rfl, _⟩ := h; rfl) (fun cdv A outer s H vs Q E hr XD h => ?_)
  obtain ⟨v, u, b, m, sp, ws, rfl, hv, hu, hb, few, hne, hin, kE, k⟩ := h
  have hr1 : Room 1 _ := hr.mono (by decide)
  obtain ⟨t, p, ys, rfl, ht, hp, hl, hy⟩ := netP_of hv
  have hl0 : 0 < ws.length := List.length_pos_iff.mpr hne
  have hl1 : ws.length - 1 < ws.length := by omega
  refine ⟨_, PSl.h (l_cons ⟨(ps_set (i := 2) scOver.nd rfl (Or.inl rfl) (pc1 G1 F1 hr (pa_cons (pv 0) (pa_cons (pv 1) pa_nil))))⟩
    (l_cons ⟨(ps_set (i := 3) scOver.nd rfl (Or.inl rfl) (pc1 G2 F2 hr1 (pa_cons (pc1 G3 F3 hr1 (pa_cons (pv 0) pa_nil)) (pa_cons (pv 1) pa_nil))))⟩
    (l_cons ⟨(ps_set (i := 4) scOver.nd rfl (Or.inl rfl) (pe_op op_sub (pe_ix (ixNT K) (pv 3) pe_int (fun _ _ => rfl)) (pe_ix (ixNT K) (pv 3) pe_int (fun _ _ => rfl))))⟩
    (l_cons ⟨(ps_if (pt_cmpR op_ge (pv 4) (pe_ix (ixNT K) (pv 0) pe_int (fun _ _ => rfl)) (nomark _)) (pss_one (ps_raise XD rfl TE pe_str)) pss_nil)⟩
    (l_cons ⟨(ps_set (i := 5) scOver.nd rfl (Or.inl rfl) (pc1 G4 F4 hr1 (pa_cons (pe_ix (ixNT K) (pv 0) pe_int (fun _ _ => rfl)) (pa_cons (pe_ix (ixNT K) (pv 3) pe_int (fun _ _ => rfl)) pa_nil))))⟩
    (l_one ⟨(ps_ret (pe_tupA (pa_cons (pe_ix (ixNT K) (pv 2) pe_int (fun _ _ => rfl)) (pa_cons (pe_ix (ixNT K) (pv 2) pe_int (fun _ _ => rfl)) (pa_cons (pv 5) (pa_cons (pe_op op_add (pv 5) (pv 4)) (pa_cons pe_int pa_nil)))))))⟩)))))), ?_⟩
  refine ⟨_, rfl, _, rfl, .ref t, u, b, m, sp, ws, ws[0], ws[ws.length - 1], rfl, hv, hu, hin, List.getElem?_eq_getElem hl0, List.getElem?_eq_getElem hl1, fun q1 H1 S1 h1 => ?_⟩
  refine ⟨_, rfl, .ref t, b, m, sp, rfl, hv.same S1, few, fun ub H2 S2 hub => ?_⟩
  refine ⟨_, rfl, ub, u, bnds sp, ws, rfl, hub, (hu.same S1).same S2, by unfold bnds; rw [List.length_map]; exact hin, fun q3 H3 S3 h3 => ?_⟩
  have S03 := S1.trans (S2.trans S3)
  have ht3 := S03 _ _ ht
  refine ⟨_, rfl, _, ⟨q3, _, _, rfl, rfl, SqT.of h3, atI_nat (j := 1) rfl⟩, _, rfl, _, ⟨q3, _, _, rfl, rfl, SqT.of h3, atI_nat (j := 0) rfl⟩, ?_⟩
  refine ⟨_, rfl, _, rfl, _, ⟨t, _, _, rfl, rfl, SqT.of ht3, atI_nat (j := 0) rfl⟩, _, rfl, ?_⟩
  refine ite2 (fun hc => kE (of_decide_eq_true hc) H3 S03) (fun hc => ?_)
  have hc : ¬ (b ≤ sumHi (bnds sp) ws - sumLo (bnds sp) ws) := fun z => hc (decide_eq_true z)
  refine ⟨_, rfl, _, ⟨t, _, _, rfl, rfl, SqT.of ht3, atI_nat (j := 0) rfl⟩, _, rfl, _, ⟨q3, _, _, rfl, rfl, SqT.of h3, atI_nat (j := 0) rfl⟩, b, _, rfl, hb, ?_⟩
  have h13 := S3 _ _ (S2 _ _ h1)
  refine ⟨_, rfl, _, ⟨q1, _, _, rfl, rfl, SqT.of h13, atI_nat (j := 0) rfl⟩, _, rfl, _, ⟨q1, _, _, rfl, rfl, SqT.of h13, atI_nat (j := 1) rfl⟩, _, rfl, _, rfl, _, rfl, (by show 5 ≤ sizeLine; decide), fun q4 H4 S4 h4 => ?_⟩
  refine k (by omega) q4 H4 (S03.trans S4) ?_
  rw [h4]
  have e1 : fstB sp ws = frmS sp ws[0] := by unfold fstB; rw [List.getElem?_eq_getElem hl0]
  have e2 : lstB sp ws = tooS sp ws[ws.length - 1] := by unfold lstB; rw [List.getElem?_eq_getElem hl1]
  unfold overS
  rw [e1, e2]
  rfl
theorem scSummed : FnScope ["net", "way", "ends"] ["net", "way"] (defScope sSummed) := ⟨rfl, rfl, rfl, by decide +kernel, rfl, by decide +kernel, by decide +kernel⟩
theorem ok_summedX {f f1 f2 f3 f4 c1 c2 c3 : Addr} {fd fd1 fd2 fd3 fd4 : FuncData} (F : Fun K "summed" "summed" sSummed f fd) (TE1 : Exc K mg "NoWay" c1)
    (G1 : Fn K mg "is_way" sWay ["net", "thing"] f1 fd1) (F1 : FnOk P w K mg base CX0 4 f1 fd1 ["net", "thing"] spWayP)
    (G2 : Fn K mg "ends_of" sEndsO ["net", "way"] f2 fd2) (F2 : FnOk P w K mg base CX0 2 f2 fd2 ["net", "way"] spEndsO)
    (G3 : Fn K mg "span_over" sOver ["net", "way"] f3 fd3) (F3 : FnOk P w K mg base (CXN P w) 3 f3 fd3 ["net", "way"] (spOverX c2))
    (G4 : Fn K mg "with_spans" sWithSp ["net", "more"] f4 fd4) (F4 : FnOk P w K mg base (CXN P w) 3 f4 fd4 ["net", "more"] (spWithX c3)) : FnOk P w K mg base (CXN P w) 5 f fd ["net", "way"] (spSummedX c1 c2 c3) := by
  refine F.okX scSummed (fun vs H Q E h => by obtain ⟨v, u, b, m, sp, d, rfl, _⟩ := h; rfl) (fun cdv A outer s H vs Q E hr XD h => ?_)
  obtain ⟨v, u, b, m, sp, d, rfl, hv, hu, fine, hb, few, kE0, kk⟩ := h
  have hr1 : Room 1 _ := hr.mono (by decide)
  have hr2 : Room 2 _ := hr.mono (by decide)
  have hr3 : Room 3 _ := hr.mono (by decide)
  refine ⟨_, PSl.h (l_cons ⟨(ps_if (pt_not (pt_val (pc1 G1 F1 hr (pa_cons (pv 0) (pa_cons (pv 1) pa_nil))))) (pss_one (ps_raise XD rfl TE1 pe_str)) pss_nil)⟩
    (l_cons ⟨(ps_set (i := 2) scSummed.nd rfl (Or.inl rfl) (pc1 G2 F2 hr2 (pa_cons (pv 0) (pa_cons (pv 1) pa_nil))))⟩
    (l_cons ⟨(ps_if (pt_cmpR op_eq (pe_ix (ixNT K) (pv 2) pe_int (fun _ _ => rfl)) (pe_ix (ixNT K) (pv 2) pe_int (fun _ _ => rfl)) (nomark _)) (pss_one (ps_raise XD rfl TE1 pe_str)) pss_nil)⟩
    (l_one ⟨(ps_ret (pcX G4 F4 hr3 XD.pass (pa_cons (pv 0) (pa_cons (pe_lstA (pa_cons (pcX G3 F3 hr3 XD.pass (pa_cons (pv 0) (pa_cons (pv 1) pa_nil))) pa_nil)) pa_nil))))⟩)))), ?_⟩
  refine ⟨_, rfl, _, rfl, v, u, b, m, sp, d, rfl, hv, hu, fine, fun H1 S1 => ⟨_, rfl, ?_⟩⟩
  refine ite2 (fun hc => kE0 (by
    cases z : wayB sp d with
    | true => rw [z] at hc; exact absurd hc (by decide)
    | false => rfl) H1 S1) (fun hc => ?_)
  have hw : wayB sp d = true := by
    cases z : wayB sp d with
    | true => rfl
    | false => exact absurd (by rw [z]; rfl) hc
  obtain ⟨ws, rfl, hin, hne, hz⟩ := way_of hw
  obtain ⟨kE1, kE2, kE3, k⟩ := kk ws rfl hin hne hz
  have hl0 : 0 < ws.length := List.length_pos_iff.mpr hne
  have hl1 : ws.length - 1 < ws.length := by omega
  have e1 : fstB sp ws = frmS sp ws[0] := by unfold fstB; rw [List.getElem?_eq_getElem hl0]
  have e2 : lstB sp ws = tooS sp ws[ws.length - 1] := by unfold lstB; rw [List.getElem?_eq_getElem hl1]
  refine ⟨_, rfl, _, rfl, v, u, b, m, sp, ws, ws[0], ws[ws.length - 1], rfl, hv.same S1, hu.same S1, hin, List.getElem?_eq_getElem hl0, List.getElem?_eq_getElem hl1, fun q2 H2 S2 h2 => ?_⟩
  have S02 := S1.trans S2
  refine ⟨_, rfl, _, ⟨q2, _, _, rfl, rfl, SqT.of h2, atI_nat (j := 0) rfl⟩, _, rfl, _, ⟨q2, _, _, rfl, rfl, SqT.of h2, atI_nat (j := 1) rfl⟩, rfl, _, rfl, ?_⟩
  refine ite2 (fun hq => kE1 (by rw [e1, e2]; simpa using hq) H2 S02) (fun hq => ?_)
  have hq : fstB sp ws ≠ lstB sp ws := fun z => hq (by rw [e1, e2] at z; simpa using z)
  refine ⟨_, rfl, _, rfl, _, rfl, v, u, b, m, sp, ws, rfl, hv.same S02, hu.same S02, hb, by omega, hne, hin, fun hwd H3 S3 => kE2 hq hwd H3 (S02.trans S3), fun hwd q3 H3 S3 h3 => ?_⟩
  have S03 := S02.trans S3
  refine ⟨(by show 1 ≤ sizeLine; decide), fun L H4 S4 h4 => ?_⟩
  have S04 := S03.trans S4
  exact ⟨v, L, b, m, sp, [overS b sp ws], _, rfl, hv.same S04, h4, .cons (.tup (S4 _ _ h3) (IsDs.ints (overS b sp ws).row)) .nil, by show sp.length + 1 ≤ 1000; omega, fun z => (kE3 hq hwd z).same S04, fun z u' H' S' hu' => k hq hwd z u' H' (S04.trans S') hu'⟩
end
end HN

/-! walking. -/
namespace HN
open PySem L2 PyProof.Rows
abbrev sLeads : Stmt := top 35
abbrev sWalk : Stmt := top 36
section
variable {P : Program} {w : World} {K : PySem.W.Frag} {mg : Str → Option Value} {base : Heap}
theorem scLeads : FnScope ["_law_net_here", "_law_step", "_law_ends"] ["_law_net_here", "_law_step"] (defScope sLeads) := ⟨rfl, rfl, rfl, by decide +kernel, rfl, by decide +kernel, by decide +kernel⟩
theorem ok_leads {f : Addr} {fd : FuncData} (F : Fun K "_law_leads" "_law_leads" sLeads f fd) : FnOk P w K mg base CX0 1 f fd ["_law_net_here", "_law_step"] spLeads := by
  refine F.ok scLeads (fun vs H Q E h => by obtain ⟨v, q, b, m, sp, s, x, rfl, _⟩ := h; rfl) (fun cdv A outer s0 H vs Q E hr h => ?_)
  obtain ⟨v, q, b, m, sp, s, x, rfl, hv, hq, hx, hd, k⟩ := h
  obtain ⟨t, p, ys, rfl, ht, hp, hl, hy⟩ := netP_of hv
  obtain ⟨qx, hqx, hqx2⟩ := hy s.i x hx
  refine ⟨_, PSl.h (l_cons ⟨(ps_set (i := 2) scLeads.nd rfl (Or.inl rfl) (pe_slice sl_tupN (pe_ix (ixNT K) (pe_ix (ixNT K) (pv 0) pe_int (fun _ _ => rfl)) (pe_ix (ixNT K) (pv 1) pe_int (fun _ _ => rfl)) (fun _ _ => rfl)) po_none (po_some pe_int)))⟩
    (l_cons ⟨(ps_cutK (ps_if (pt_cmpR op_eq (pe_ix (ixNT K) (pv 1) pe_int (fun _ _ => rfl)) (pe_un un_neg pe_int) (nomark _)) (pss_one (ps_set (i := 2) scLeads.nd rfl (Or.inl rfl) (pe_back (pv 2)))) pss_nil))⟩
    (l_one ⟨(ps_ret (pv 2))⟩))), ?_⟩
  refine ⟨_, rfl, _, ⟨t, _, _, rfl, rfl, SqT.of ht, atI_nat (j := 2) rfl⟩, _, rfl, _, ⟨q, _, _, rfl, rfl, SqT.of hq, atI_nat (j := 0) rfl⟩, _, ⟨p, _, _, rfl, rfl, SqT.of hp, atI_nat (j := s.i) hqx⟩, _, rfl, qx, _, rfl, hqx2, fun p1 H1 S1 h1 => ?_⟩
  have h1 : H1 p1 = some (.tup [.int x.s, .int x.g]) := h1
  refine ⟨fun σ' H' => ∃ p2, σ' = [some (.ref t), some (.ref q), some (.ref p2)] ∧ Same H H' ∧ H' p2 = some (.tup [.int (frm x s.d), .int (too x s.d)]), ?_, ?_⟩
  · rintro σ' H' ⟨p2, rfl, S2, h2⟩
    exact ⟨_, rfl, k p2 H' S2 h2⟩
  refine ⟨_, rfl, _, ⟨q, _, _, rfl, rfl, SqT.of (S1 _ _ hq), atI_nat (j := 1) rfl⟩, _, rfl, rfl, _, rfl, ?_⟩
  refine ite2 (fun e => ?_) (fun e => ?_)
  · have e : s.d = -1 := by have := of_decide_eq_true e; injection this
    refine ⟨_, rfl, p1, _, rfl, h1, fun p2 H2 S2 h2 => ⟨p2, rfl, S1.trans S2, ?_⟩⟩
    rw [h2]
    unfold frm too
    rw [if_neg (by omega), if_neg (by omega)]; rfl
  · have e : s.d = 1 := by
      rcases hd with z | z
      · exact z
      · exact absurd (decide_eq_true (by rw [z])) e
    refine ⟨p1, rfl, S1, ?_⟩
    rw [h1]
    unfold frm too
    rw [if_pos e, if_pos e]
theorem scWalk : FnScope ["_law_box_here", "_law_net_here", "_law_most", "_law_way", "_law_here", "_law_k", "_law_some"] ["_law_box_here", "_law_net_here", "_law_most"] (defScope sWalk) := ⟨rfl, rfl, rfl, by decide +kernel, rfl, by decide +kernel, by decide +kernel⟩
theorem ok_walk {f f1 f2 : Addr} {fd fd1 fd2 : FuncData} (F : Fun K "_law_walk" "_law_walk" sWalk f fd) (T : Nm mg) (T2 : Nt mg) (G1 : Fn K mg "_law_draw" sDraw ["_law_box_here", "_law_most"] f1 fd1) (G2 : Fn K mg "_law_leads" sLeads ["_law_net_here", "_law_step"] f2 fd2) : FnOk P w K mg base CX0 2 f fd ["_law_box_here", "_law_net_here", "_law_most"] spWalk := by
  have F1 : FnOk P w K mg base CX0 1 f1 fd1 ["_law_box_here", "_law_most"] spDraw := ok_draw G1.F
  have F2 : FnOk P w K mg base CX0 1 f2 fd2 ["_law_net_here", "_law_step"] spLeads := ok_leads G2.F
  refine F.ok scWalk (fun vs H Q E h => by obtain ⟨p, x, y, v, b, m, sp, k, rfl, _⟩ := h; rfl) (fun cdv A outer s H vs Q E hr h => ?_)
  obtain ⟨p, x, y, v, b, m, sp, c, rfl, hp, hv, N, c0, c1, hst, k⟩ := h
  obtain ⟨t, pn, ys, rfl, ht, hpn, hl, hy⟩ := netP_of hv
  have few := N.few
  have m1 := N.m1
  have m2 := N.m2
  refine ⟨_, PSl.h (l_cons ⟨(ps_set (i := 3) scWalk.nd rfl (Or.inl rfl) (pe_lst pa_nil))⟩
    (l_cons ⟨(ps_set (i := 4) scWalk.nd rfl (Or.inr rfl) (pc1 G1 F1 hr (pa_cons (pv 0) (pa_cons (pe_ix (ixNT K) (pv 1) pe_int (fun _ _ => rfl)) pa_nil))))⟩
    (l_cons ⟨(ps_for PassesOwn.never rfl (pi_range1 rfl T2.range (pa_cons (pc1 G1 F1 hr (pa_cons (pv 0) (pa_cons (pe_op op_add (pv 2) pe_int) pa_nil))) pa_nil)) (pg_name (i := 5) scWalk.nd rfl (Or.inl rfl)) (PSl.h (l_cons ⟨(ps_set (i := 6) scWalk.nd rfl (Or.inl rfl) (pe_op op_catL (pe_comp (fr := []) (js := []) rfl (pi_range1 rfl T2.range (pa_cons (pe_callB (lenN K) rfl T.len PySem.boot_len (pa_cons (pe_ix (ixNT K) (pv 1) pe_int (fun _ _ => rfl)) pa_nil)) pa_nil)) (by decide +kernel) rfl (by decide +kernel) rfl (by show ∀ y : Str × NameKind, y ∈ _ → y.2 = NameKind.free → List.lookup y.1 (defScope sWalk).names = some NameKind.cell; decide +kernel) (by decide +kernel) rfl (by decide +kernel) (fun _ _ _ _ _ => ⟨(pe_tupA (pa_cons (pv 0) (pa_cons pe_int pa_nil))), pts_nil⟩)) (pe_comp (fr := []) (js := []) rfl (pi_range1 rfl T2.range (pa_cons (pe_callB (lenN K) rfl T.len PySem.boot_len (pa_cons (pe_ix (ixNT K) (pv 1) pe_int (fun _ _ => rfl)) pa_nil)) pa_nil)) (by decide +kernel) rfl (by decide +kernel) rfl (by show ∀ y : Str × NameKind, y ∈ _ → y.2 = NameKind.free → List.lookup y.1 (defScope sWalk).names = some NameKind.cell; decide +kernel) (by decide +kernel) rfl (by decide +kernel) (fun _ _ _ _ _ => ⟨(pe_tupA (pa_cons (pv 0) (pa_cons (pe_un un_neg pe_int) pa_nil))), pts_nil⟩))))⟩
    (l_cons ⟨(ps_setC (iy := 6) (fr := ["_law_here", "_law_net_here"]) (js := [4, 1]) scWalk.nd rfl (Or.inl rfl) rfl (piNL K (pv 6)) (by decide +kernel) rfl (by decide +kernel) rfl (by show ∀ y : Str × NameKind, y ∈ _ → y.2 = NameKind.free → List.lookup y.1 (defScope sWalk).names = some NameKind.cell; decide +kernel) (by decide +kernel) rfl (by decide +kernel) (fun _ _ _ _ _ => ⟨(pv 0), (pts_one (pt_cmpR op_eq (pe_ix (r := rIxT K) ix_tup (pc1 G2 F2 hr (pa_cons (pv 2) (pa_cons (pv 0) pa_nil))) pe_int (fun _ _ => rfl)) (pv 1) (nomark _)))⟩))⟩
    (l_one ⟨(ps_if (pt_cmpR (op_neL0 hr.units0) (pv 6) (pe_lstA pa_nil) (nomark _)) (PSl.h (l_cons ⟨(ps_expr (bmN K PySem.F.plainAttrs_list PySem.F.slot_list_append PySem.F.type_list_append mt_append (pv 3) (pa_cons (pe_ix (ixNL K) (pv 6) (pc1 G1 F1 hr (pa_cons (pv 0) (pa_cons (pe_callB (lenN K) rfl T.len PySem.boot_len (pa_cons (pv 6) pa_nil)) pa_nil))) (fun _ _ => rfl)) pa_nil)))⟩
    (l_one ⟨(ps_set (i := 4) scWalk.nd rfl (Or.inr rfl) (pe_ix (ixNT K) (pc1 G2 F2 hr (pa_cons (pv 1) (pa_cons (pe_ix (ixNL K) (pv 3) (pe_un un_neg pe_int) (fun _ _ => rfl)) pa_nil))) pe_int (fun _ _ => rfl)))⟩))) pss_nil)⟩)))))⟩
    (l_one ⟨(ps_ret (pe_callTy (tupN K) rfl T.ttup boot_tuple (pa_cons (pv 3) pa_nil)))⟩)))), ?_⟩
  -- an empty way, and where one stands
  refine ⟨Nat.zero_le _, fun L hL => ?_⟩
  have hLp : L ≠ p := fun z => by rw [z, hp] at hL; cases hL
  have SL : Same H (upd H L (.lst [])) := Same.put (Same.refl H) hL
  have hL1 : (upd H L (.lst [])) L = some (.lst []) := upd_same
  have M1 : Mb p H (upd H L (.lst [])) := (Mb.refl hp).then SL
  generalize upd H L (.lst []) = H1 at SL hL1 M1 ⊢
  have hp1 := M1.box
  refine ⟨_, rfl, _, rfl, _, ⟨t, _, _, rfl, rfl, SqT.of (SL _ _ ht), atI_nat (j := 1) rfl⟩, p, _, _, m, rfl, hp1, by omega, by omega, fun he H2 _ _ M2 => ?_⟩
  have hL2 := M2.at hL1 hLp
  have M2 := M1.trans M2
  have hp2 := M2.box
  refine ⟨_, rfl, _, rfl, p, _, _, _, rfl, hp2, by omega, by omega, fun r3 H3 r30 r31 M3 => ?_⟩
  have hL3 := M3.at hL2 hLp
  have M3 := M2.trans M3
  refine ⟨r3, rfl, by omega, by omega, ?_⟩
  refine for_range (n := r3.toNat) (fun i σ H4 => Mb p H H4 ∧ ∃ (he : Int) (vk vs : Option V) (ws : List V), σ = [some (.ref p), some (.ref t), some (.int c), some (.ref L), some (.int he), vk, vs] ∧ H4 L = some (.lst ws) ∧ ws.length ≤ i ∧ ∀ v ∈ ws, StepV sp.length H4 v)
    ⟨M3, he, none, none, [], rfl, hL3, Nat.le_refl _, fun _ h => absurd h (by simp)⟩ ?_ ?_
  · rintro i σ H4 hi ⟨M4, he, vk, vs, ws, rfl, hL4, hw4, hs4⟩
    have tup4 : ∀ q xs, H q = some (.tup xs) → H4 q = some (.tup xs) := fun q xs e => M4.1 q _ (ne_of e hp (by intro z; cases z)) e
    have lenN : ∀ H', Same H4 H' → SqL K H' pn ys ∨ SqT K H' pn ys := fun H' S => .inr (SqT.of (S _ _ (tup4 _ _ hpn)))
    -- all steps by way 1
    refine ⟨_, rfl, _, ⟨t, _, _, rfl, rfl, SqT.of (tup4 _ _ ht), atI_nat (j := 2) rfl⟩, pn, _, rfl, lenN _ (Same.refl H4), _, rfl, by omega, by omega, ?_⟩
    refine comp_range (n := ((ys.length : Int)).toNat) (fun i zs H5 => Same H4 H5 ∧ zs.length = i ∧ ∀ v ∈ zs, StepV sp.length H5 v) ⟨Same.refl H4, rfl, fun _ h => absurd h (by simp)⟩ (fun i zs H5 _ ⟨_, e, _⟩ => by rw [e]; exact Nat.le_refl _) (by rw [Int.toNat_natCast, hl]; exact small_le (by omega)) (fun i zs H5 hi5 ⟨e1, e2, e3⟩ => ?_) (fun zs5 H5 ⟨e1, e2, e3⟩ D5 hD5 => ?_)
    · rw [Int.toNat_natCast, hl] at hi5
      refine tNoIf_go ?_
      refine ⟨_, rfl, (by show 2 ≤ sizeLine; decide), fun q H6 S6 h6 => ⟨e1.trans S6, by rw [List.length_append, e2]; rfl, fun v hv' => ?_⟩⟩
      rcases List.mem_append.mp hv' with hv' | hv'
      · exact (e3 v hv').same S6
      · rw [List.mem_singleton.mp hv']
        refine ⟨q, ⟨i, 1⟩, rfl, ?_, hi5, .inl rfl⟩
        rw [h6, Int.zero_add]; rfl
    have S5 := e1.put (o := .lst zs5) hD5
    have h5 : (upd H5 D5 (.lst zs5)) D5 = some (.lst zs5) := upd_same
    have e3 : ∀ v ∈ zs5, StepV sp.length (upd H5 D5 (.lst zs5)) v := fun v hv' => (e3 v hv').same (Same.put (Same.refl H5) hD5)
    have l5 : zs5.length = sp.length := by rw [e2, Int.toNat_natCast, hl]
    generalize upd H5 D5 (.lst zs5) = H6 at S5 h5 e3 ⊢
    -- and by way -1
    refine ⟨_, rfl, _, ⟨t, _, _, rfl, rfl, SqT.of (S5 _ _ (tup4 _ _ ht)), atI_nat (j := 2) rfl⟩, pn, _, rfl, lenN _ S5, _, rfl, by omega, by omega, ?_⟩
    refine comp_range (n := ((ys.length : Int)).toNat) (fun i zs H7 => Same H6 H7 ∧ zs.length = i ∧ ∀ v ∈ zs, StepV sp.length H7 v) ⟨Same.refl H6, rfl, fun _ h => absurd h (by simp)⟩ (fun i zs H7 _ ⟨_, e, _⟩ => by rw [e]; exact Nat.le_refl _) (by rw [Int.toNat_natCast, hl]; exact small_le (by omega)) (fun i zs H7 hi7 ⟨f1, f2, f3⟩ => ?_) (fun zs7 H7 ⟨f1, f2, f3⟩ D7 hD7 => ?_)
    · rw [Int.toNat_natCast, hl] at hi7
      refine tNoIf_go ?_
      refine ⟨_, rfl, _, rfl, (by show 2 ≤ sizeLine; decide), fun q H8 S8 h8 => ⟨f1.trans S8, by rw [List.length_append, f2]; rfl, fun v hv' => ?_⟩⟩
      rcases List.mem_append.mp hv' with hv' | hv'
      · exact (f3 v hv').same S8
      · rw [List.mem_singleton.mp hv']
        refine ⟨q, ⟨i, -1⟩, rfl, ?_, hi7, .inr rfl⟩
        rw [h8, Int.zero_add]; rfl
    have S7 := f1.put (o := .lst zs7) hD7
    have h7 : (upd H7 D7 (.lst zs7)) D7 = some (.lst zs7) := upd_same
    have f3 : ∀ v ∈ zs7, StepV sp.length (upd H7 D7 (.lst zs7)) v := fun v hv' => (f3 v hv').same (Same.put (Same.refl H7) hD7)
    have l7 : zs7.length = sp.length := by rw [f2, Int.toNat_natCast, hl]
    generalize upd H7 D7 (.lst zs7) = H8 at S7 h7 f3 ⊢
    refine ⟨D5, D7, _, _, rfl, rfl, S7 _ _ h5, h7, (by rw [l5, l7]; exact small_le (by omega)), fun L9 H9 S9 h9 => ?_⟩
    have S49 : Same H4 H9 := S5.trans (S7.trans S9)
    have g3 : ∀ v ∈ zs5 ++ zs7, StepV sp.length H9 v := fun v hv' => by
      rcases List.mem_append.mp hv' with hv' | hv'
      · exact ((e3 v hv').same S7).same S9
      · exact (f3 v hv').same S9
    have l9 : (zs5 ++ zs7).length ≤ 1000 := by rw [List.length_append, l5, l7]; omega
    generalize zs5 ++ zs7 = zs9 at h9 g3 l9 ⊢
    have hv9 : IsD H9 (.ref t) (netP b m sp) := (netP_mb hv hp M4).same S49
    -- those that lead from here
    refine ⟨_, rfl, L9, rfl, ⟨_, SqL.of h9⟩, ?_⟩
    refine comp_list (K := K) (a := L9) (xs := zs9) (fun i zs HA => Same H9 HA ∧ zs.length ≤ i ∧ ∀ v ∈ zs, StepV sp.length HA v) ⟨Same.refl H9, Nat.le_refl _, fun _ h => absurd h (by simp)⟩ (fun i zs HA _ ⟨e1, e2, _⟩ => ⟨SqL.of (e1 _ _ h9), e2⟩) (small_le l9) (fun i v zs HA hx ⟨e1, e2, e3⟩ => ?_) (fun zsA HA ⟨e1, e2, e3⟩ DA hDA => ?_)
    · have sv := (g3 v (List.mem_of_getElem? hx)).same e1
      obtain ⟨q, s', rfl, hq, hsi, hsd⟩ := id sv
      refine ⟨_, rfl, _, rfl, .ref t, q, b, m, sp, s', sp[s'.i], rfl, hv9.same e1, hq, List.getElem?_eq_getElem hsi, hsd, fun pB HB SB hB => ?_⟩
      refine ⟨_, ⟨pB, _, _, rfl, rfl, SqT.of hB, atI_nat (j := 0) rfl⟩, _, rfl, rfl, _, rfl, ?_⟩
      refine ite2 (fun _ => ?_) (fun _ => ?_)
      · refine ⟨_, rfl, e1.trans SB, by rw [List.length_append]; show zs.length + 1 ≤ i + 1; omega, fun u hu => ?_⟩
        rcases List.mem_append.mp hu with hu | hu
        · exact (e3 u hu).same SB
        · rw [List.mem_singleton.mp hu]; exact sv.same SB
      · exact ⟨e1.trans SB, by omega, fun u hu => (e3 u hu).same SB⟩
    have SA : Same H4 (upd HA DA (.lst zsA)) := (S49.trans e1).put hDA
    have hA : (upd HA DA (.lst zsA)) DA = some (.lst zsA) := upd_same
    have e3 : ∀ v ∈ zsA, StepV sp.length (upd HA DA (.lst zsA)) v := fun v hv' => (e3 v hv').same (Same.put (Same.refl HA) hDA)
    generalize upd HA DA (.lst zsA) = HC at SA hA e3 ⊢
    refine ⟨_, rfl, Nat.zero_le _, fun LD HD SD hD => ?_⟩
    have S4D := SA.trans SD
    have M4D := M4.then S4D
    have hLD := S4D _ _ hL4
    have hsD : ∀ v ∈ ws, StepV sp.length HD v := fun v hv' => (hs4 v hv').same S4D
    refine ⟨DA, LD, _, rfl, rfl, SqL.of (SD _ _ hA), SqL.of hD, _, rfl, ?_⟩
    refine ite2 (fun hne => ?_) (fun _ => ?_)
    · have hpos : 0 < zsA.length := by
        cases zsA with
        | nil => exact absurd hne (by decide)
        | cons _ _ => simp
      obtain ⟨xD, yD, hpD⟩ := M4D.2
      have hAp : DA ≠ p := by
        intro z
        have hAD := SD _ _ hA
        rw [z, hpD] at hAD
        injection hAD with hAD
        injection hAD with hAD
        obtain ⟨q, s', e, _⟩ := e3 (.int xD) (by rw [← hAD]; simp)
        cases e
      refine ⟨_, rfl, .inl ⟨rfl, _, SqL.of hLD⟩, _, rfl, _, rfl, _, rfl, DA, _, rfl, .inl (SqL.of (SD _ _ hA)), p, xD, yD, _, rfl, hpD, by omega, by have := small_le l9; omega, fun rE HE rE0 rE1 ME => ?_⟩
      have hAE := ME.at (SD _ _ hA) hAp
      have hLE := ME.at hLD hLp
      have M4E := M4D.trans ME
      obtain ⟨vE, eE, mE⟩ := atI_in (xs := zsA) rE0 rE1
      have sE : StepV sp.length HE vE := ((e3 vE mE).same SD).but hpD ME.1
      have hsE : ∀ v ∈ ws, StepV sp.length HE v := fun v hv' => (hsD v hv').but hpD ME.1
      refine ⟨_, ⟨DA, _, _, rfl, rfl, SqL.of hAE, eE⟩, ?_⟩
      have hi63 : i < 1000 := by omega
      refine ⟨L, ws, _, rfl, rfl, hLE, (Nat.lt_of_lt_of_le (by omega : ws.length < 1000) (by decide : 1000 ≤ sizeLine)), ?_⟩
      have key : ∀ v, StepV sp.length HE v → StepV sp.length (upd HE L (.lst (ws ++ [vE]))) v := fun v hv' => hv'.but hLE fun b o hb e => by rw [upd_ne hb]; exact e
      have hF : (upd HE L (.lst (ws ++ [vE]))) L = some (.lst (ws ++ [vE])) := upd_same
      have MF : Mb p H (upd HE L (.lst (ws ++ [vE]))) := by
        obtain ⟨xE, yE, hpE⟩ := M4E.2
        refine ⟨fun q o hq e => ?_, xE, yE, by rw [upd_ne hLp.symm]; exact hpE⟩
        rw [upd_ne (fun z => by rw [z, hL] at e; cases e)]
        exact M4E.1 q o hq e
      have keyE := key vE sE
      have key2 : ∀ v ∈ ws, StepV sp.length (upd HE L (.lst (ws ++ [vE]))) v := fun v hv' => key v (hsE v hv')
      clear key
      generalize upd HE L (.lst (ws ++ [vE])) = HF at hF MF keyE key2 ⊢
      obtain ⟨qF, sF, rfl, hqF, hsi, hsd⟩ := id keyE
      refine ⟨_, rfl, _, rfl, _, rfl, _, ⟨L, _, _, rfl, rfl, SqL.of hF, atI_last (x := .ref qF) (by rw [List.length_append]; show (ws ++ [V.ref qF])[ws.length + 1 - 1]? = _; rw [Nat.add_sub_cancel, List.getElem?_append_right (Nat.le_refl _), Nat.sub_self]; rfl)⟩, ?_⟩
      refine ⟨.ref t, qF, b, m, sp, sF, sp[sF.i], rfl, netP_mb hv hp MF, hqF, List.getElem?_eq_getElem hsi, hsd, fun pG HG SG hG => ?_⟩
      refine ⟨_, ⟨pG, _, _, rfl, rfl, SqT.of hG, atI_nat (j := 1) rfl⟩, MF.then SG, _, _, _, _, rfl, SG _ _ hF, by rw [List.length_append]; show ws.length + 1 ≤ i + 1; omega, fun v hv' => ?_⟩
      rcases List.mem_append.mp hv' with hv' | hv'
      · exact (key2 v hv').same SG
      · rw [List.mem_singleton.mp hv']; exact keyE.same SG
    · exact ⟨M4D, he, _, _, ws, rfl, hLD, by omega, hsD⟩
  · rintro σ H4 ⟨M4, he, vk, vs, ws, rfl, hL4, hw4, hs4⟩
    refine ⟨_, rfl, L, _, rfl, SqL.of hL4, fun q H5 S5 h5 => ?_⟩
    obtain ⟨us, d1, d2, d3⟩ := steps_data ws fun v hv' => (hs4 v hv').same S5
    exact k (.ref q) us H5 (M4.then S5) (.tup h5 d1) d2 (by omega)
end
end HN

/-! k20: the law's own look. -/
namespace HN
open PySem L2 PyProof.Rows
abbrev sWholeL : Stmt := top 37
abbrev sIsWay : Stmt := top 38
theorem sq_one {k : Int} (h : k * k = 1) : k = 1 ∨ k = -1 := by
  by_cases h1 : 2 ≤ k
  · have := Int.mul_le_mul h1 h1 (by decide) (by omega)
    omega
  · by_cases h2 : k ≤ -2
    · have := Int.mul_le_mul (show 2 ≤ -k by omega) (show 2 ≤ -k by omega) (by decide) (by omega)
      rw [Int.neg_mul_neg] at this
      omega
    · have : k = -1 ∨ k = 0 ∨ k = 1 := by omega
      rcases this with rfl | rfl | rfl
      · exact .inr rfl
      · exact absurd h (by decide)
      · exact .inl rfl
def hV : Option Int → V
  | none => .non
  | some x => .int x
def isIntD : Dt → Bool
  | .int _ => true
  | _ => false
theorem isI_D {H : Hp} {x : V} {d : Dt} (h : IsD H x d) : isI x = isIntD d := by cases h <;> rfl
section
variable {P : Program} {w : World} {K : PySem.W.Frag} {mg : Str → Option Value} {base : Heap}
theorem scWholeL : FnScope ["_law_found"] ["_law_found"] (defScope sWholeL) := ⟨rfl, rfl, rfl, by decide +kernel, rfl, by decide +kernel, by decide +kernel⟩
theorem ok_wholeL {f : Addr} {fd : FuncData} (F : Fun K "_law_whole" "_law_whole" sWholeL f fd) (T : Nm mg) : FnOk P w K mg base CX0 1 f fd ["_law_found"] spWhole := by
  refine F.ok scWholeL (fun vs H Q E h => by obtain ⟨v, rfl, _⟩ := h; rfl) (fun cdv A outer s H vs Q E hr h => ?_)
  obtain ⟨v, rfl, ⟨S, hS⟩, k⟩ := h
  refine ⟨_, PSl.h (l_one ⟨(ps_ret (pe_and (pe_isInt T (pv 0)) (pe_one (pe_not (pe_isBool T (pv 0))))))⟩), ?_⟩
  refine ⟨_, rfl, _, _, rfl, hS, _, rfl, ?_⟩
  refine ite2 (fun hc => ?_) (fun hc => ?_)
  · refine ⟨_, rfl, _, _, rfl, hS, _, rfl, ?_⟩
    rw [sort_int hS hc]; exact k
  · rw [← sort_noInt hS hc]; exact k
theorem scIsWay : FnScope ["_law_net_here", "_law_thing", "_law_here", "_law_step", "_law_start", "_law_goal"] ["_law_net_here", "_law_thing"] (defScope sIsWay) := ⟨rfl, rfl, rfl, by decide +kernel, rfl, by decide +kernel, by decide +kernel⟩
theorem ok_isWay {f f1 f2 : Addr} {fd fd1 fd2 : FuncData} (F : Fun K "_law_is_way" "_law_is_way" sIsWay f fd) (T : Nm mg) (G1 : Fn K mg "_law_whole" sWholeL ["_law_found"] f1 fd1) (G2 : Fn K mg "_law_leads" sLeads ["_law_net_here", "_law_step"] f2 fd2) : FnOk P w K mg base CX0 2 f fd ["_law_net_here", "_law_thing"] spWayP := by
  have F1 : FnOk P w K mg base CX0 1 f1 fd1 ["_law_found"] spWhole := ok_wholeL G1.F T
  have F2 : FnOk P w K mg base CX0 1 f2 fd2 ["_law_net_here", "_law_step"] spLeads := ok_leads G2.F
  refine F.ok scIsWay (fun vs H Q E h => by obtain ⟨v, u, b, m, sp, d, rfl, _⟩ := h; rfl) (fun cdv A outer s H vs Q E hr h => ?_)
  obtain ⟨v, u, b, m, sp, d, rfl, hv, hd, fine, k⟩ := h
  obtain ⟨t, pn, ys, rfl, ht, hpn, hl, hy⟩ := netP_of hv
  refine ⟨_, PSl.h (l_cons ⟨(ps_if (PW.pt (pw_or (pt_not (pt_val (pe_isTup T (pv 1)))) (pw_or1 (pt_cmpR op_eq (pe_callB (lenN K) rfl T.len PySem.boot_len (pa_cons (pv 1) pa_nil)) pe_int (nomark _))))) (pss_one (ps_ret pe_bl)) pss_nil)⟩
    (l_cons ⟨(ps_set (i := 2) scIsWay.nd rfl (Or.inl rfl) pe_non)⟩
    (l_cons ⟨(ps_for PassesOwn.never rfl (piNT K (pv 1)) (pg_name (i := 3) scIsWay.nd rfl (Or.inl rfl)) (PSl.h (l_cons ⟨(ps_if (PW.pt (pw_or (pt_not (pt_val (pe_isTup T (pv 3)))) (pw_or (pt_cmpR op_ne (pe_callB (lenN K) rfl T.len PySem.boot_len (pa_cons (pv 3) pa_nil)) pe_int (nomark _)) (pw_or (pt_not (pt_val (pc1 G1 F1 hr (pa_cons (pe_ix (ixNT K) (pv 3) pe_int (fun _ _ => rfl)) pa_nil)))) (pw_or1 (pt_not (pt_val (pc1 G1 F1 hr (pa_cons (pe_ix (ixNT K) (pv 3) pe_int (fun _ _ => rfl)) pa_nil))))))))) (pss_one (ps_ret pe_bl)) pss_nil)⟩
    (l_cons ⟨(ps_if (PW.pt (pw_or (pt_cmpR op_lt (pe_ix (ixNT K) (pv 3) pe_int (fun _ _ => rfl)) pe_int (nomark _)) (pw_or (pt_cmpR op_ge (pe_ix (ixNT K) (pv 3) pe_int (fun _ _ => rfl)) (pe_callB (lenN K) rfl T.len PySem.boot_len (pa_cons (pe_ix (ixNT K) (pv 0) pe_int (fun _ _ => rfl)) pa_nil)) (nomark _)) (pw_or1 (pt_cmpR op_ne (pe_op op_mulB (pe_ix (ixNT K) (pv 3) pe_int (fun _ _ => rfl)) (pe_ix (ixNT K) (pv 3) pe_int (fun _ _ => rfl))) pe_int (nomark _)))))) (pss_one (ps_ret pe_bl)) pss_nil)⟩
    (l_cons ⟨(ps_asg (pc1 G2 F2 hr (pa_cons (pv 0) (pa_cons (pv 3) pa_nil))) (tupG K rfl (pgs_cons (pg_name (i := 4) scIsWay.nd rfl (Or.inl rfl)) (pgs_cons (pg_name (i := 5) scIsWay.nd rfl (Or.inl rfl)) pgs_nil))))⟩
    (l_cons ⟨(ps_if (PW.pt (pw_and (pt_cmpR op_notN (pv 2) pe_non (nomark _)) (pw_and1 (pt_cmpR op_ne (pv 4) (pv 2) (nomark _))))) (pss_one (ps_ret pe_bl)) pss_nil)⟩
    (l_one ⟨(ps_set (i := 2) scIsWay.nd rfl (Or.inl rfl) (pv 5))⟩)))))))⟩
    (l_one ⟨(ps_ret pe_bl)⟩)))), ?_⟩
  by_cases hT : d.ty = "tuple"
  · obtain ⟨ds, rfl⟩ : ∃ ds, d = .tup ds := by
      cases d with
      | tup ds => exact ⟨ds, rfl⟩
      | oth T => cases hd <;> simp [Dt.ty] at hT
      | _ => simp [Dt.ty] at hT
    obtain ⟨p, xs, rfl, hp, rx⟩ := hd.tup_of
    have lx := rx.length
    have few := (fine ds rfl).1
    refine ⟨_, rfl, _, _, rfl, hd.tyn, _, rfl, iteC rfl ?_⟩
    refine ⟨_, rfl, p, _, rfl, .inr (SqT.of hp), rfl, _, rfl, ?_⟩
    by_cases h0 : ds = []
    · refine iteB (by rw [lx, h0]; rfl) ?_
      have e : wayB sp (.tup ds) = false := by rw [h0]; rfl
      rw [← e]; exact k H (Same.refl H)
    refine iteC (by rw [lx, decide_eq_false (fun z => h0 (List.length_eq_zero_iff.mp (by injection z with z; omega)))]) ?_
    rw [wayB_from h0] at k
    refine ⟨_, rfl, p, rfl, ⟨_, SqT.of hp⟩, ?_⟩
    refine for_tup (K := K) (xs := xs) (fun i σ H2 => Same H H2 ∧ ∃ (h : Option Int) (v3 v4 v5 : Option V), σ = [some (.ref t), some (.ref p), some (hV h), v3, v4, v5] ∧ wayFrom sp none ds = wayFrom sp h (ds.drop i)) ⟨Same.refl H, none, none, none, none, rfl, rfl⟩ (fun i σ H2 _ ⟨S2, _⟩ => SqT.of (S2 _ _ hp)) ?_ ?_
    · rintro i x σ H2 hx ⟨S2, h, v3, v4, v5, rfl, ew⟩
      obtain ⟨d', hd', dx⟩ := rx.get hx
      have dx := dx.same S2
      have hi : i < ds.length := (List.getElem?_eq_some_iff.mp hd').1
      have edr : ds.drop i = d' :: ds.drop (i + 1) := by
        rw [List.drop_eq_getElem_cons hi]
        rw [List.getElem?_eq_getElem hi] at hd'
        rw [Option.some.inj hd']
      rw [edr] at ew
      -- what is no step
      have no : stepD sp.length d' = none → ∀ H', Same H H' → Q (.bl false) H' := fun e H' S' => by
        have : wayFrom sp none ds = false := by rw [ew]; unfold wayFrom; rw [e]
        rw [← this]; exact k H' S'
      by_cases hT2 : d'.ty = "tuple"
      · obtain ⟨es, rfl⟩ : ∃ es, d' = .tup es := by
          cases d' with
          | tup es => exact ⟨es, rfl⟩
          | oth T => cases dx <;> simp [Dt.ty] at hT2
          | _ => simp [Dt.ty] at hT2
        have dxT := dx.tyn
        obtain ⟨q, zs, rfl, hq, rz⟩ := dx.tup_of
        have lz := rz.length
        refine ⟨_, rfl, _, _, rfl, dxT, _, rfl, iteC rfl ?_⟩
        refine ⟨_, rfl, q, _, rfl, .inr (SqT.of hq), rfl, _, rfl, ?_⟩
        by_cases h2 : es.length = 2
        · refine iteC (by rw [lz, h2]; rfl) ?_
          obtain ⟨d0, d1, rfl⟩ : ∃ a b, es = [a, b] := by
            match es, h2 with
            | [a, b], _ => exact ⟨a, b, rfl⟩
          cases rz with
          | cons r0 rr =>
            cases rr with
            | cons r1 rr =>
              cases rr
              rename_i x0 x1
              refine ⟨_, rfl, _, ⟨q, _, _, rfl, rfl, SqT.of hq, atI_nat (j := 0) rfl⟩, x0, rfl, ⟨_, r0.tyn⟩, _, rfl, ?_⟩
              rw [isI_D r0]
              cases q0 : isIntD d0 with
              | false =>
                refine iteT ?_
                refine no ?_ H2 S2
                cases d0 <;> first | rfl | (simp [isIntD] at q0)
              | true =>
                obtain ⟨i0, rfl⟩ : ∃ j, d0 = .int j := by
                  cases d0 with
                  | int j => exact ⟨j, rfl⟩
                  | _ => simp [isIntD] at q0
                have ex := r0.int_of
                subst ex
                refine iteF ?_
                refine ⟨_, rfl, _, ⟨q, _, _, rfl, rfl, SqT.of hq, atI_nat (j := 1) rfl⟩, x1, rfl, ⟨_, r1.tyn⟩, _, rfl, ?_⟩
                rw [isI_D r1]
                cases q1 : isIntD d1 with
                | false =>
                  refine iteT ?_
                  refine no ?_ H2 S2
                  cases d1 <;> first | rfl | (simp [isIntD] at q1)
                | true =>
                  obtain ⟨k0, rfl⟩ : ∃ j, d1 = .int j := by
                    cases d1 with
                    | int j => exact ⟨j, rfl⟩
                    | _ => simp [isIntD] at q1
                  have ex := r1.int_of
                  subst ex
                  refine iteF ?_
                  have hk0 : k0.natAbs < 10 ^ 400 := (fine ds rfl).2 _ (List.mem_of_getElem? hd') _ _ rfl
                  have sD : stepD sp.length (.tup [.int i0, .int k0]) = if 0 ≤ i0 ∧ i0 ≤ (sp.length : Int) - 1 ∧ (k0 = 1 ∨ k0 = -1) then some ⟨i0.toNat, k0⟩ else none := rfl
                  -- within the net's spans
                  refine ⟨_, rfl, _, ⟨q, _, _, rfl, rfl, SqT.of hq, atI_nat (j := 0) rfl⟩, _, rfl, ?_⟩
                  refine ite2 (fun c0 => ?_) (fun c0 => ?_)
                  · have c0 : i0 < 0 := of_decide_eq_true c0
                    exact iteT (no (by rw [sD, if_neg (by omega)]) H2 S2)
                  have c0 : ¬ i0 < 0 := fun z => c0 (decide_eq_true z)
                  refine ⟨_, rfl, _, ⟨q, _, _, rfl, rfl, SqT.of hq, atI_nat (j := 0) rfl⟩, _, rfl, _, ⟨t, _, _, rfl, rfl, SqT.of (S2 _ _ ht), atI_nat (j := 2) rfl⟩, pn, _, rfl, .inr (SqT.of (S2 _ _ hpn)), _, rfl, ?_⟩
                  refine ite2 (fun c1 => ?_) (fun c1 => ?_)
                  · have c1 : (ys.length : Int) ≤ i0 := of_decide_eq_true c1
                    exact iteT (no (by rw [sD, if_neg (by omega)]) H2 S2)
                  have c1 : ¬ (ys.length : Int) ≤ i0 := fun z => c1 (decide_eq_true z)
                  refine ⟨_, rfl, _, ⟨q, _, _, rfl, rfl, SqT.of hq, atI_nat (j := 1) rfl⟩, _, rfl, _, ⟨q, _, _, rfl, rfl, SqT.of hq, atI_nat (j := 1) rfl⟩, ⟨hk0, hk0⟩, rfl, _, rfl, ?_⟩
                  by_cases c2 : k0 * k0 = 1
                  · refine iteC (by show (!decide (V.int (k0 * k0) = V.int 1)) = false; rw [c2]; rfl) ?_
                    have hk1 := sq_one c2
                    have sS : stepD sp.length (.tup [.int i0, .int k0]) = some ⟨i0.toNat, k0⟩ := by rw [sD, if_pos ⟨by omega, by omega, hk1⟩]
                    obtain ⟨eRow, hsi, hsd⟩ := stepD_of sS
                    have hq' : H2 q = some (.tup ((⟨i0.toNat, k0⟩ : Stp).row.map V.int)) := by
                      rw [hq]
                      show some (HO.tup [V.int i0, V.int k0]) = some (HO.tup [V.int ((i0.toNat : Nat) : Int), V.int k0])
                      rw [Int.toNat_of_nonneg (by omega)]
                    refine ⟨_, rfl, _, rfl, .ref t, q, b, m, sp, ⟨i0.toNat, k0⟩, sp[i0.toNat], rfl, hv.same S2, hq', List.getElem?_eq_getElem hsi, hsd, fun p3 H3 S3 h3 => ?_⟩
                    refine ⟨p3, _, rfl, SqT.of h3, rfl, _, _, rfl, _, _, rfl, rfl, ?_⟩
                    have S23 := S2.trans S3
                    have eF : frmS sp ⟨i0.toNat, k0⟩ = frm sp[i0.toNat] k0 := by unfold frmS; rw [List.getElem?_eq_getElem hsi]
                    have eT : tooS sp ⟨i0.toNat, k0⟩ = too sp[i0.toNat] k0 := by unfold tooS; rw [List.getElem?_eq_getElem hsi]
                    cases h with
                    | none =>
                      have ew2 : wayFrom sp none ds = wayFrom sp (some (too sp[i0.toNat] k0)) (ds.drop (i + 1)) := by
                        rw [ew, ← eT]
                        conv => lhs; unfold wayFrom
                        rw [sS]; rfl
                      refine ⟨_, rfl, rfl, _, rfl, ?_⟩
                      refine iteF ?_
                      exact ⟨_, rfl, S23, some (too sp[i0.toNat] k0), _, _, _, rfl, ew2⟩
                    | some hx0 =>
                      refine ⟨_, rfl, rfl, _, rfl, ?_⟩
                      refine iteT ?_
                      refine ⟨_, rfl, _, rfl, rfl, _, rfl, ?_⟩
                      by_cases c3 : frm sp[i0.toNat] k0 = hx0
                      · refine iteC (by show (!decide (V.int (frm sp[i0.toNat] k0) = V.int hx0)) = false; rw [c3, decide_eq_true rfl]; rfl) ?_
                        have ew2 : wayFrom sp none ds = wayFrom sp (some (too sp[i0.toNat] k0)) (ds.drop (i + 1)) := by
                          rw [ew, ← eT]
                          conv => lhs; unfold wayFrom
                          rw [sS]
                          show (decide (frmS sp ⟨i0.toNat, k0⟩ = hx0) && _) = _
                          rw [eF, decide_eq_true c3, Bool.true_and]
                        exact ⟨_, rfl, S23, some (too sp[i0.toNat] k0), _, _, _, rfl, ew2⟩
                      · refine iteB (by show (!decide (V.int (frm sp[i0.toNat] k0) = V.int hx0)) = true; rw [decide_eq_false (fun z => c3 (by injection z))]; rfl) ?_
                        have : wayFrom sp none ds = false := by
                          rw [ew]
                          conv => lhs; unfold wayFrom
                          rw [sS]
                          show (decide (frmS sp ⟨i0.toNat, k0⟩ = hx0) && _) = _
                          rw [eF, decide_eq_false c3, Bool.false_and]
                        rw [this] at k
                        exact k H3 S23
                  · refine iteB (by show (!decide (V.int (k0 * k0) = V.int 1)) = true; rw [decide_eq_false (fun z => c2 (by injection z))]; rfl) ?_
                    refine no ?_ H2 S2
                    rw [sD, if_neg]
                    rintro ⟨_, _, z⟩
                    rcases z with rfl | rfl <;> exact c2 (by decide)
        · refine iteB ?_ ?_
          · rw [lz, decide_eq_false (fun z => h2 (by injection z with z; omega))]; rfl
          · refine no ?_ H2 S2
            have := stepB_len (n := sp.length) h2
            unfold stepB at this
            cases q9 : stepD sp.length (.tup es) with
            | none => rfl
            | some s9 => rw [q9] at this; cases this
      · refine ⟨_, rfl, _, _, rfl, dx.tyn, _, rfl, iteB ?_ ?_⟩
        · have : (d'.ty == "tuple") = false := by simpa using hT2
          rw [this]; rfl
        · refine no ?_ H2 S2
          cases d' with
          | tup ds => exact absurd rfl hT2
          | _ => rfl
    · rintro σ H2 ⟨S2, h, v3, v4, v5, rfl, ew⟩
      rw [lx, List.drop_length] at ew
      have e : wayFrom sp none ds = true := by rw [ew]; unfold wayFrom; rfl
      rw [e] at k
      exact k H2 S2
  · refine ⟨_, rfl, _, _, rfl, hd.tyn, _, rfl, iteB ?_ ?_⟩
    · have : (d.ty == "tuple") = false := by simpa using hT
      rw [this]; rfl
    · have e : wayB sp d = false := by
        cases d with
        | tup ds => exact absurd rfl hT
        | _ => rfl
      rw [← e]; exact k H (Same.refl H)
end
end HN

/-! k62: what is due. -/
namespace HN
open PySem L2 PyProof.Rows
abbrev sDueS : Stmt := top 39
def wsOf (sp : List Sn) (d : Dt) : List Stp := match d with
  | .tup ds => ds.filterMap (stepD sp.length)
  | _ => []
theorem wsOf_way {sp : List Sn} {ws : List Stp} (h : WayIn sp.length ws) : wsOf sp (wayP ws) = ws := (rows_steps ws h).1
def dueD (b m : Int) (sp : List Sn) (d : Dt) : List Dt :=
  if wayB sp d = false ∨ fstB sp (wsOf sp d) = lstB sp (wsOf sp d) then [.str "way"]
  else if b ≤ sumHi (bnds sp) (wsOf sp d) - sumLo (bnds sp) (wsOf sp d) then [.str "wide"]
  else if 40 < sp.length + 1 then [.str "great", .int ((sp.length : Int) + 1), .int 40]
  else [.str "net", netP b m (sp ++ [overS b sp (wsOf sp d)])]
theorem dueD_no {b m : Int} {sp : List Sn} {d : Dt} (h : wayB sp d = false ∨ fstB sp (wsOf sp d) = lstB sp (wsOf sp d)) : dueD b m sp d = [.str "way"] := by unfold dueD; rw [if_pos h]
theorem not_no {sp : List Sn} {ws : List Stp} (hw : wayB sp (wayP ws) = true) (hin : WayIn sp.length ws) (h : fstB sp ws ≠ lstB sp ws) : ¬ (wayB sp (wayP ws) = false ∨ fstB sp (wsOf sp (wayP ws)) = lstB sp (wsOf sp (wayP ws))) := by
  rw [wsOf_way hin, hw]
  rintro (z | z)
  · cases z
  · exact h z
theorem dueD_wide {b m : Int} {sp : List Sn} {ws : List Stp} (hw : wayB sp (wayP ws) = true) (hin : WayIn sp.length ws) (h : fstB sp ws ≠ lstB sp ws) (h2 : b ≤ sumHi (bnds sp) ws - sumLo (bnds sp) ws) : dueD b m sp (wayP ws) = [.str "wide"] := by
  unfold dueD
  rw [if_neg (not_no hw hin h), wsOf_way hin, if_pos h2]
theorem dueD_great {b m : Int} {sp : List Sn} {ws : List Stp} (hw : wayB sp (wayP ws) = true) (hin : WayIn sp.length ws) (h : fstB sp ws ≠ lstB sp ws) (h2 : ¬ b ≤ sumHi (bnds sp) ws - sumLo (bnds sp) ws) (h3 : 40 < sp.length + 1) : dueD b m sp (wayP ws) = [.str "great", .int ((sp.length : Int) + 1), .int 40] := by
  unfold dueD
  rw [if_neg (not_no hw hin h), wsOf_way hin, if_neg h2, if_pos h3]
theorem dueD_net {b m : Int} {sp : List Sn} {ws : List Stp} (hw : wayB sp (wayP ws) = true) (hin : WayIn sp.length ws) (h : fstB sp ws ≠ lstB sp ws) (h2 : ¬ b ≤ sumHi (bnds sp) ws - sumLo (bnds sp) ws) (h3 : ¬ 40 < sp.length + 1) : dueD b m sp (wayP ws) = [.str "net", netP b m (sp ++ [overS b sp ws])] := by
  unfold dueD
  rw [if_neg (not_no hw hin h), wsOf_way hin, if_neg h2, if_neg h3]
theorem netP_pl (b m : Int) (sp : List Sn) : pl (netP b m sp) = true := by
  have h := pls_rows Sn.row sp
  show pl (.tup [.int b, .int m, .tup (rowsD Sn.row sp)]) = true
  simp [pls, pl, h]
theorem netP_dep (b m : Int) (sp : List Sn) : dep (netP b m sp) < 50 := by
  have h := deps_rows Sn.row sp
  show dep (.tup [.int b, .int m, .tup (rowsD Sn.row sp)]) < 50
  simp [deps, dep]
  omega
theorem dueD_pls (b m : Int) (sp : List Sn) (d : Dt) : pls (dueD b m sp d) = true := by
  unfold dueD
  split
  · simp [pls, pl]
  · split
    · simp [pls, pl]
    · split
      · simp [pls, pl]
      · unfold pls; unfold pls; unfold pls; rw [netP_pl]; simp [pl]
theorem dueD_deps (b m : Int) (sp : List Sn) (d : Dt) : deps (dueD b m sp d) < 60 := by
  unfold dueD
  split
  · simp [deps, dep]
  · split
    · simp [deps, dep]
    · split
      · simp [deps, dep]
      · have h := netP_dep b m (sp ++ [overS b sp (wsOf sp d)])
        generalize netP b m (sp ++ [overS b sp (wsOf sp d)]) = n at h
        simp only [deps, dep]
        omega
theorem hide {T : Prop} (h : ∀ G : Prop, (T → G) → G) : T := h T id
theorem big400 {z : Int} (h0 : 0 ≤ z) (h1 : z < 10 ^ 60) : z.natAbs < 10 ^ 400 := by
  have h2 : z.natAbs < 10 ^ 60 := by omega
  exact Nat.lt_of_lt_of_le h2 (Nat.pow_le_pow_right (by decide) (by decide))
theorem sub4 (h l o a : Int) : h + o - (l + a) = h - l + o - a := by omega
theorem sub5 (h l o a : Int) : h + -a - (l + -o) = h - l + o - a := by omega
/-- a step more: its bound, and what it adds -/
theorem due_step {b m : Int} {sp : List Sn} {ws : List Stp} {i : Nat} (NT : NetT b m sp) (hin : WayIn sp.length ws) (hi : i < ws.length) : ∃ (s : Stp) (x : Sn) (c : Int), ws[i]? = some s ∧ sp[s.i]? = some x ∧
    atI [V.int x.s, V.int x.g, V.int x.l, V.int x.o, V.int x.w] (2 + (if decide (s.d < 0) = true then 1 else 0)) = some (V.int c) ∧ (s.d.natAbs < 10 ^ 400 ∧ c.natAbs < 10 ^ 400) ∧
    sumLo (bnds sp) (ws.take (i + 1)) = sumLo (bnds sp) (ws.take i) + s.d * c ∧ sumHi (bnds sp) (ws.take (i + 1)) - sumLo (bnds sp) (ws.take (i + 1)) = sumHi (bnds sp) (ws.take i) - sumLo (bnds sp) (ws.take i) + x.o - x.l := by
  obtain ⟨ji, jd⟩ := hin ws[i] (List.getElem_mem hi)
  have ok := NT.all sp[ws[i].i] (List.getElem_mem ji)
  have hm1 : sumLo (bnds sp) (ws.take (i + 1)) = sumLo (bnds sp) (ws.take i) + lowS (bnds sp) ws[i] := by
    unfold sumLo
    rw [List.take_add_one, List.getElem?_eq_getElem hi, List.map_append, List.sum_append]; simp
  have hm2 : sumHi (bnds sp) (ws.take (i + 1)) = sumHi (bnds sp) (ws.take i) + highS (bnds sp) ws[i] := by
    unfold sumHi
    rw [List.take_add_one, List.getElem?_eq_getElem hi, List.map_append, List.sum_append]; simp
  have eb := bnds_at ji
  have o0 : 0 ≤ sp[ws[i].i].o := Int.le_trans ok.l0 ok.lo
  have l60 : sp[ws[i].i].l < 10 ^ 60 := Int.lt_of_le_of_lt ok.lo ok.o60
  have l0 := ok.l0
  have o60 := ok.o60
  clear ok NT hin
  rcases jd with jd | jd
  · have l1 : lowS (bnds sp) ws[i] = sp[ws[i].i].l := by unfold lowS; rw [eb]; exact if_pos jd
    have l2 : highS (bnds sp) ws[i] = sp[ws[i].i].o := by unfold highS; rw [eb]; exact if_pos jd
    refine ⟨ws[i], sp[ws[i].i], sp[ws[i].i].l, List.getElem?_eq_getElem hi, List.getElem?_eq_getElem ji, ?_, ⟨by rw [jd]; exact big400 (z := 1) (by decide) (by decide), big400 l0 l60⟩, ?_, ?_⟩
    · rw [show decide (ws[i].d < 0) = false from decide_eq_false (by rw [jd]; decide)]; rfl
    · rw [hm1, l1, jd, Int.one_mul]
    · rw [hm1, hm2, l1, l2]; exact sub4 _ _ _ _
  · have n1 : ws[i].d ≠ 1 := by rw [jd]; decide
    have l1 : lowS (bnds sp) ws[i] = -sp[ws[i].i].o := by unfold lowS; rw [eb]; exact if_neg n1
    have l2 : highS (bnds sp) ws[i] = -sp[ws[i].i].l := by unfold highS; rw [eb]; exact if_neg n1
    refine ⟨ws[i], sp[ws[i].i], sp[ws[i].i].o, List.getElem?_eq_getElem hi, List.getElem?_eq_getElem ji, ?_, ⟨by rw [jd]; exact big400 (z := 1) (by decide) (by decide), big400 o0 o60⟩, ?_, ?_⟩
    · rw [show decide (ws[i].d < 0) = true from decide_eq_true (by rw [jd]; decide)]; rfl
    · rw [hm1, l1, jd, Int.neg_one_mul]
    · rw [hm1, hm2, l1, l2]; exact sub5 _ _ _ _
def spDueS : Sp := fun vs H Q _ => ∃ (v u : V) (b m : Int) (sp : List Sn) (d : Dt), vs = [v, u] ∧ IsD H v (netP b m sp) ∧ IsD H u d ∧ Fine d ∧ NetT b m sp ∧ ∀ L zs H', Same H H' → H' L = some (.lst zs) → IsDs H' zs (dueD b m sp d) → Q (.ref L) H'
section
variable {P : Program} {w : World} {K : PySem.W.Frag} {mg : Str → Option Value} {base : Heap}
theorem scDueS : FnScope ["_law_net_here", "_law_way", "_law_begin", "_law_end", "_law_low", "_law_wide", "_law_span_here", "_law_turn", "_law_more"] ["_law_net_here", "_law_way"] (defScope sDueS) := ⟨rfl, rfl, rfl, by decide +kernel, rfl, by decide +kernel, by decide +kernel⟩
theorem ok_dueS {f f1 f2 : Addr} {fd fd1 fd2 : FuncData} (F : Fun K "_law_due" "_law_due" sDueS f fd) (T : Nm mg) (G1 : Fn K mg "_law_is_way" sIsWay ["_law_net_here", "_law_thing"] f1 fd1) (F1 : FnOk P w K mg base CX0 2 f1 fd1 ["_law_net_here", "_law_thing"] spWayP) (G2 : Fn K mg "_law_leads" sLeads ["_law_net_here", "_law_step"] f2 fd2) : FnOk P w K mg base CX0 3 f fd ["_law_net_here", "_law_way"] spDueS := by
  have F2 : FnOk P w K mg base CX0 1 f2 fd2 ["_law_net_here", "_law_step"] spLeads := ok_leads G2.F
  refine F.ok scDueS (fun vs H Q E h => by obtain ⟨v, u, b, m, sp, d, rfl, _⟩ := h; rfl) (fun cdv A outer s H vs Q E hr h => ?_)
  obtain ⟨v, u, b, m, sp, d, rfl, hv, hu, fine, NT, k⟩ := h
  have hr1 : Room 1 _ := hr.mono (by decide)
  obtain ⟨t, pn, ys, rfl, ht, hpn, hl, hyn⟩ := netP_of hv
  have dy : IsDs H ys (rowsD Sn.row sp) := by
    obtain ⟨t', pn', ys', e0, ht', hpn', dy⟩ := netP_rows hv
    cases e0
    rw [ht] at ht'
    cases ht'
    rw [hpn] at hpn'
    cases hpn'
    exact dy
  refine ⟨_, PSl.h (l_cons ⟨(ps_if (pt_not (pt_val (pc1 G1 F1 hr (pa_cons (pv 0) (pa_cons (pv 1) pa_nil))))) (pss_one (ps_ret (pe_lstA (pa_cons pe_str pa_nil)))) pss_nil)⟩
    (l_cons ⟨(ps_set (i := 2) scDueS.nd rfl (Or.inl rfl) (pe_ix (ixNT K) (pc1 G2 F2 hr1 (pa_cons (pv 0) (pa_cons (pe_ix (ixNT K) (pv 1) pe_int (fun _ _ => rfl)) pa_nil))) pe_int (fun _ _ => rfl)))⟩
    (l_cons ⟨(ps_set (i := 3) scDueS.nd rfl (Or.inl rfl) (pe_ix (ixNT K) (pc1 G2 F2 hr1 (pa_cons (pv 0) (pa_cons (pe_ix (ixNT K) (pv 1) (pe_un un_neg pe_int) (fun _ _ => rfl)) pa_nil))) pe_int (fun _ _ => rfl)))⟩
    (l_cons ⟨(ps_if (pt_cmpR op_eq (pv 2) (pv 3) (nomark _)) (pss_one (ps_ret (pe_lstA (pa_cons pe_str pa_nil)))) pss_nil)⟩
    (l_cons ⟨(ps_set (i := 4) scDueS.nd rfl (Or.inl rfl) pe_int)⟩
    (l_cons ⟨(ps_set (i := 5) scDueS.nd rfl (Or.inl rfl) pe_int)⟩
    (l_cons ⟨(ps_for PassesOwn.never rfl (piNT K (pv 1)) (tupG K rfl (pgs_cons (pg_name (i := 6) scDueS.nd rfl (Or.inl rfl)) (pgs_cons (pg_name (i := 7) scDueS.nd rfl (Or.inl rfl)) pgs_nil))) (PSl.h (l_cons ⟨(ps_set (i := 4) scDueS.nd rfl (Or.inl rfl) (pe_op op_add (pv 4) (pe_op op_mulB (pv 7) (pe_ix (ixNT K) (pe_ix (ixNT K) (pe_ix (ixNT K) (pv 0) pe_int (fun _ _ => rfl)) (pv 6) (fun _ _ => rfl)) (pe_op op_add pe_int (pe_callTy call_int1 rfl T.tint boot_int (pa_cons (pe_cmpR op_lt (pv 7) pe_int (nomark _)) pa_nil))) (fun _ _ => rfl)))))⟩
    (l_one ⟨(ps_set (i := 5) scDueS.nd rfl (Or.inl rfl) (pe_op op_sub (pe_op op_add (pv 5) (pe_ix (ixNT K) (pe_ix (ixNT K) (pe_ix (ixNT K) (pv 0) pe_int (fun _ _ => rfl)) (pv 6) (fun _ _ => rfl)) pe_int (fun _ _ => rfl))) (pe_ix (ixNT K) (pe_ix (ixNT K) (pe_ix (ixNT K) (pv 0) pe_int (fun _ _ => rfl)) (pv 6) (fun _ _ => rfl)) pe_int (fun _ _ => rfl))))⟩))))⟩
    (l_cons ⟨(ps_if (pt_cmpR op_ge (pv 5) (pe_ix (ixNT K) (pv 0) pe_int (fun _ _ => rfl)) (nomark _)) (pss_one (ps_ret (pe_lstA (pa_cons pe_str pa_nil)))) pss_nil)⟩
    (l_cons ⟨(ps_if (pt_cmpR op_gt (pe_callB (lenN K) rfl T.len PySem.boot_len (pa_cons (pe_ix (ixNT K) (pv 0) pe_int (fun _ _ => rfl)) pa_nil)) pe_int (nomark _)) (pss_one (ps_ret (PEs.h (k_lst (a_cons ⟨pe_str⟩ (a_cons (k_op op_add ⟨pe_callB (lenN K) rfl T.len PySem.boot_len (pa_cons (pe_ix (ixNT K) (pv 0) pe_int (fun _ _ => rfl)) pa_nil)⟩ k_int) (a_cons k_int a_nil))))))) pss_nil)⟩
    (l_cons ⟨(ps_set (i := 8) scDueS.nd rfl (Or.inl rfl) (pe_tupA (pa_cons (pv 2) (pa_cons (pv 3) (pa_cons (pe_op op_mod (pv 4) (pe_ix (ixNT K) (pv 0) pe_int (fun _ _ => rfl))) (pa_cons (pe_op op_add (pe_op op_mod (pv 4) (pe_ix (ixNT K) (pv 0) pe_int (fun _ _ => rfl))) (pv 5)) (pa_cons pe_int pa_nil)))))))⟩
    (l_one ⟨(ps_ret (pe_lstA (pa_cons pe_str (pa_cons (pe_tupA (pa_cons (pe_ix (ixNT K) (pv 0) pe_int (fun _ _ => rfl)) (pa_cons (pe_ix (ixNT K) (pv 0) pe_int (fun _ _ => rfl)) (pa_cons (pe_op (catN K) (pe_ix (ixNT K) (pv 0) pe_int (fun _ _ => rfl)) (pe_tupA (pa_cons (pv 8) pa_nil))) pa_nil)))) pa_nil))))⟩))))))))))), ?_⟩
  refine ⟨_, rfl, _, rfl, .ref t, u, b, m, sp, d, rfl, hv, hu, fine, fun H1 S1 => ⟨_, rfl, ?_⟩⟩
  cases qW : wayB sp d with
  | false =>
    refine iteT ?_
    exact ⟨(by show 1 ≤ sizeLine; decide), fun L H2 S2 h2 => k L _ H2 (S1.trans S2) h2 (by rw [dueD_no (.inl qW)]; exact .cons (.str _) .nil)⟩
  | true =>
    refine iteF ?_
    refine hide fun G out => ?_
    obtain ⟨ws, rfl, hin, hne, hz⟩ := way_of qW
    obtain ⟨pw, yw, rfl, hpw, hlyw, rw'⟩ := rows_of hu
    have hl0 : 0 < ws.length := List.length_pos_iff.mpr hne
    have hl1 : ws.length - 1 < ws.length := Nat.sub_lt hl0 (by decide)
    obtain ⟨s1, z1⟩ : ∃ s, ws[0]? = some s := ⟨_, List.getElem?_eq_getElem hl0⟩
    obtain ⟨s2, z2⟩ : ∃ s, ws[ws.length - 1]? = some s := ⟨_, List.getElem?_eq_getElem hl1⟩
    obtain ⟨i1, d1⟩ := hin s1 (List.mem_of_getElem? z1)
    obtain ⟨i2, d2⟩ := hin s2 (List.mem_of_getElem? z2)
    obtain ⟨x1, w1⟩ : ∃ x, sp[s1.i]? = some x := ⟨_, List.getElem?_eq_getElem i1⟩
    obtain ⟨x2, w2⟩ : ∃ x, sp[s2.i]? = some x := ⟨_, List.getElem?_eq_getElem i2⟩
    obtain ⟨q1, f1', g1⟩ := rows_at rw' z1
    obtain ⟨q2, f2', g2⟩ := rows_at rw' z2
    have e1 : fstB sp ws = frm x1 s1.d := by unfold fstB; rw [z1]; show frmS sp s1 = _; unfold frmS; rw [w1]
    have e2 : lstB sp ws = too x2 s2.d := by unfold lstB; rw [z2]; show tooS sp s2 = _; unfold tooS; rw [w2]
    refine out ?_
    refine ⟨_, rfl, _, rfl, _, ⟨pw, _, _, rfl, rfl, SqT.of (S1 _ _ hpw), atI_nat (j := 0) f1'⟩, .ref t, q1, b, m, sp, s1, x1, rfl, hv.same S1, S1 _ _ g1, w1, d1, fun p2 H2 S2 h2 => ?_⟩
    refine ⟨_, ⟨p2, _, _, rfl, rfl, SqT.of h2, atI_nat (j := 0) rfl⟩, ?_⟩
    have S02 := S1.trans S2
    refine ⟨_, rfl, _, rfl, _, rfl, _, ⟨pw, _, _, rfl, rfl, SqT.of (S02 _ _ hpw), atI_last (by rw [hlyw]; exact f2')⟩, .ref t, q2, b, m, sp, s2, x2, rfl, hv.same S02, S02 _ _ g2, w2, d2, fun p3 H3 S3 h3 => ?_⟩
    refine ⟨_, ⟨p3, _, _, rfl, rfl, SqT.of h3, atI_nat (j := 1) rfl⟩, ?_⟩
    have S03 := S02.trans S3
    have ht3 := S03 _ _ ht
    have hpn3 := S03 _ _ hpn
    refine ⟨_, rfl, _, rfl, rfl, _, rfl, ?_⟩
    refine ite2 (fun hc => ?_) (fun hc => ?_)
    · have hc : fstB sp ws = lstB sp ws := by rw [e1, e2]; simpa using hc
      exact ⟨(by show 1 ≤ sizeLine; decide), fun L H4 S4 h4 => k L _ H4 (S03.trans S4) h4 (by rw [dueD_no (.inr (by rw [wsOf_way hin]; exact hc))]; exact .cons (.str _) .nil)⟩
    have hc : fstB sp ws ≠ lstB sp ws := fun z => hc (by rw [e1, e2] at z; simpa using z)
    refine ⟨_, rfl, pw, rfl, ⟨_, SqT.of (S03 _ _ hpw)⟩, ?_⟩
    refine for_tup (K := K) (xs := yw) (fun i σ H4 => H4 = H3 ∧ ∃ (a c : Int) (v6 v7 : Option V), a = fstB sp ws ∧ c = lstB sp ws ∧ σ = [some (.ref t), some (.ref pw), some (.int a), some (.int c), some (.int (sumLo (bnds sp) (ws.take i))), some (.int (sumHi (bnds sp) (ws.take i) - sumLo (bnds sp) (ws.take i))), v6, v7, none]) ⟨rfl, _, _, none, none, e1.symm, e2.symm, rfl⟩ (fun i σ H4 _ ⟨e1, _⟩ => by rw [e1]; exact SqT.of (S03 _ _ hpw)) ?_ ?_
    · rintro i y σ H4 hy ⟨eH, a, c, v6, v7, ea, ec, rfl⟩
      subst eH
      refine hide fun G out => ?_
      have hi : i < ws.length := by rw [← hlyw]; exact (List.getElem?_eq_some_iff.mp hy).1
      obtain ⟨s, x, c0, zs, zx, eat, big, eL, eH⟩ := due_step NT hin hi
      obtain ⟨q, hq, hq2⟩ := rows_at rw' zs
      rw [hy] at hq
      cases hq
      obtain ⟨qn, hqn, hqn2⟩ := hyn s.i x zx
      have hq3 := S03 _ _ hq2
      have hqn3 := S03 _ _ hqn2
      refine out ?_
      refine ⟨q, _, rfl, SqT.of hq3, rfl, _, _, rfl, _, _, rfl, rfl, ?_⟩
      refine ⟨_, rfl, _, rfl, _, rfl, _, ⟨t, _, _, rfl, rfl, SqT.of ht3, atI_nat (j := 2) rfl⟩, _, rfl, _, ⟨pn, _, _, rfl, rfl, SqT.of hpn3, atI_nat (j := s.i) hqn⟩, _, rfl, .inr ⟨_, rfl, ?_⟩⟩
      refine ⟨_, ⟨qn, _, _, rfl, rfl, SqT.of hqn3, eat⟩, big, ?_⟩
      refine ⟨_, rfl, _, rfl, _, ⟨t, _, _, rfl, rfl, SqT.of ht3, atI_nat (j := 2) rfl⟩, _, rfl, _, ⟨pn, _, _, rfl, rfl, SqT.of hpn3, atI_nat (j := s.i) hqn⟩, _, ⟨qn, _, _, rfl, rfl, SqT.of hqn3, atI_nat (j := 3) rfl⟩, _, rfl, _, ⟨t, _, _, rfl, rfl, SqT.of ht3, atI_nat (j := 2) rfl⟩, _, rfl, _, ⟨pn, _, _, rfl, rfl, SqT.of hpn3, atI_nat (j := s.i) hqn⟩, _, ⟨qn, _, _, rfl, rfl, SqT.of hqn3, atI_nat (j := 2) rfl⟩, rfl, a, c, some (.int (s.i : Nat)), some (.int s.d), ea, ec, ?_⟩
      rw [eH, eL]; rfl
    · rintro σ H4 ⟨eH, a, c, v6, v7, ea, ec, rfl⟩
      subst eH
      rw [hlyw, List.take_length]
      refine ⟨_, rfl, _, rfl, _, ⟨t, _, _, rfl, rfl, SqT.of ht3, atI_nat (j := 0) rfl⟩, _, rfl, ?_⟩
      refine ite2 (fun hw => ?_) (fun hw => ?_)
      · have hw : b ≤ sumHi (bnds sp) ws - sumLo (bnds sp) ws := of_decide_eq_true hw
        exact ⟨(by show 1 ≤ sizeLine; decide), fun L H5 S5 h5 => k L _ H5 (S03.trans S5) h5 (by rw [dueD_wide qW hin hc hw]; exact .cons (.str _) .nil)⟩
      have hw : ¬ b ≤ sumHi (bnds sp) ws - sumLo (bnds sp) ws := fun z => hw (decide_eq_true z)
      refine ⟨_, rfl, _, ⟨t, _, _, rfl, rfl, SqT.of ht3, atI_nat (j := 2) rfl⟩, pn, _, rfl, .inr (SqT.of hpn3), _, rfl, ?_⟩
      refine ite2 (fun hg => ?_) (fun hg => ?_)
      · have hg : (39 : Int) < (ys.length : Int) := of_decide_eq_true hg
        refine ⟨_, rfl, _, ⟨t, _, _, rfl, rfl, SqT.of ht3, atI_nat (j := 2) rfl⟩, pn, _, rfl, .inr (SqT.of hpn3), (by show 3 ≤ sizeLine; decide), fun L H5 S5 h5 => k L _ H5 (S03.trans S5) h5 ?_⟩
        rw [dueD_great qW hin hc hw (by omega), ← hl]
        exact .cons (.str _) (.cons (.int _) (.cons (.int _) .nil))
      have hg : ¬ (39 : Int) < (ys.length : Int) := fun z => hg (decide_eq_true z)
      have b0 : 0 < b := by have := NT.b1; omega
      refine ⟨_, rfl, _, rfl, _, rfl, _, rfl, _, ⟨t, _, _, rfl, rfl, SqT.of ht3, atI_nat (j := 0) rfl⟩, b0, _, rfl, _, rfl, _, ⟨t, _, _, rfl, rfl, SqT.of ht3, atI_nat (j := 0) rfl⟩, b0, _, rfl, (by show 5 ≤ sizeLine; decide), fun q5 H5 S5 h5 => ?_⟩
      have h5 : H5 q5 = some (.tup ((overS b sp ws).row.map V.int)) := by rw [h5, ea, ec]; rfl
      have ht5 := S5 _ _ ht3
      have hpn5 := S5 _ _ hpn3
      refine ⟨_, rfl, _, ⟨t, _, _, rfl, rfl, SqT.of ht5, atI_nat (j := 0) rfl⟩, _, rfl, _, ⟨t, _, _, rfl, rfl, SqT.of ht5, atI_nat (j := 1) rfl⟩, _, rfl, _, ⟨t, _, _, rfl, rfl, SqT.of ht5, atI_nat (j := 2) rfl⟩, _, rfl, (by show 1 ≤ sizeLine; decide), fun q6 H6 S6 h6 => ?_⟩
      refine ⟨pn, q6, _, _, rfl, rfl, S6 _ _ hpn5, h6, small_le (by show ys.length + 1 ≤ 1000; omega), fun q7 H7 S7 h7 => ⟨(by show 3 ≤ sizeLine; decide), fun q8 H8 S8 h8 => ⟨(by show 2 ≤ sizeLine; decide), fun L H9 S9 h9 => ?_⟩⟩⟩
      refine k L _ H9 (S03.trans (S5.trans (S6.trans (S7.trans (S8.trans S9))))) h9 ?_
      rw [dueD_net qW hin hc hw (by omega)]
      refine .cons (.str _) (.cons (.tup (S9 _ _ h8) (.cons (.int b) (.cons (.int m) (.cons (.tup (S9 _ _ (S8 _ _ h7)) ?_) .nil)))) .nil)
      show IsDs H9 _ (rowsD Sn.row (sp ++ [overS b sp ws]))
      unfold rowsD
      rw [List.map_append]
      have dd := dy.same (S03.trans (S5.trans (S6.trans (S7.trans (S8.trans S9)))))
      exact dd.append (.cons (.tup (S9 _ _ (S8 _ _ (S7 _ _ (S6 _ _ h5)))) (IsDs.ints (overS b sp ws).row)) .nil)
end
end HN

/-! k62: what is told. -/
namespace HN
open PySem L2 PyProof.Rows
abbrev sTold : Stmt := top 40
theorem kit_self {K : PySem.W.Frag} {C : Addr} : PySem.W.kitOne K (.ref C) (.ref C) = some true := by unfold PySem.W.kitOne; simp
/-! the rules of Rules41 where the context's K is named -/
theorem isxK {X : Cx} (K : PySem.W.Frag) (hK : X.K = K := by rfl) : CallR X (.builtin "isinstance") (fun xs H Q => ∃ a C d b, (∃ D, xs = [.ref a, .ref D] ∧ PySem.W.kitOne K (.ref C) (.ref D) = some b) ∧ H a = some (isExc a C d) ∧ (∀ D, d = some D → ∃ fs, H D = some (XD D fs)) ∧ XCls K C ∧ Q (.bl b) H) := by subst hK; exact call_isx
theorem isxTK {X : Cx} (K : PySem.W.Frag) (hK : X.K = K := by rfl) : CallR X (.builtin "isinstance") (fun xs H Q => ∃ a C d b t, ∃ ds : List Addr, xs = [.ref a, .ref t] ∧ H t = some (.tup (ds.map V.ref)) ∧ PySem.W.kitAny K (.ref C) (ds.map Value.ref) = some b ∧ H a = some (isExc a C d) ∧ (∀ D, d = some D → ∃ fs, H D = some (XD D fs)) ∧ XCls K C ∧ Q (.bl b) H) := by subst hK; exact call_isxT
theorem xfldK {X : Cx} (K : PySem.W.Frag) {e : Expr} {f : Str} {pos : Pos} {ta : TE} (he : PE X e ta) (hb : attributeBase e f X.env (eval e X.env) = eval e X.env := by rfl) (hK : X.K = K := by rfl) :
    PE X (.Attribute e f pos) (fun σ H Q => ta σ H fun x H1 => ∃ a C D fs v, x = .ref a ∧ H1 a = some (isExc a C (some D)) ∧ H1 D = some (XD D fs) ∧ XCls K C ∧ NoAttr K C f ∧ fs.lookup f = some v ∧ Q v H1) := by subst hK; exact pe_xfld he hb
theorem countK {X : Cx} (K : PySem.W.Frag) {o e : Expr} {to te : TE} {apos cpos : Pos} (hu : X.A.units + 64 < cLine) (ho : PE X o to) (he : PE X e te) (hK : X.K = K := by rfl) (hbase : attributeBase o "count" X.env (eval o X.env) = eval o X.env := by rfl)
    (hfew : ((backTo cpos (starEach [e] X.env)).all (fun x => !x.1) && (backToKw cpos (keywordEach [] X.env)).all (fun x => x.1.isSome) && decide ([e].length + ([] : List Keyword).length + (if ([] : List Keyword).isEmpty then 0 else 1) < 30)) = true := by rfl)
    (hline : (apos.endLine == cpos.line) = true := by rfl) (hs : starEach [e] X.env = (false, eval e X.env) :: starEach [] X.env := by rfl) (hplain : (backTo cpos (starEach [] X.env)).any (·.1) = false := by rfl) :
    PE X (.Call (.Attribute o "count" apos) [e] [] cpos) (tBM K "list" rCountB to (tCons te tNil)) := by
  subst hK
  exact pe_bm PySem.F.plainAttrs_list PySem.F.slot_list_count PySem.F.type_list_count (mt_countB hu) ho (pa_cons he pa_nil hs) hbase hfew hline hs hplain
theorem indexK {X : Cx} (K : PySem.W.Frag) {o e : Expr} {to te : TE} {apos cpos : Pos} (hu : X.A.units + 64 < cLine) (ho : PE X o to) (he : PE X e te) (hK : X.K = K := by rfl) (hbase : attributeBase o "index" X.env (eval o X.env) = eval o X.env := by rfl)
    (hfew : ((backTo cpos (starEach [e] X.env)).all (fun x => !x.1) && (backToKw cpos (keywordEach [] X.env)).all (fun x => x.1.isSome) && decide ([e].length + ([] : List Keyword).length + (if ([] : List Keyword).isEmpty then 0 else 1) < 30)) = true := by rfl)
    (hline : (apos.endLine == cpos.line) = true := by rfl) (hs : starEach [e] X.env = (false, eval e X.env) :: starEach [] X.env := by rfl) (hplain : (backTo cpos (starEach [] X.env)).any (·.1) = false := by rfl) :
    PE X (.Call (.Attribute o "index" apos) [e] [] cpos) (tBM K "list" rIndexB to (tCons te tNil)) := by
  subst hK
  exact pe_bm PySem.F.plainAttrs_list PySem.F.slot_list_index PySem.F.type_list_index (mt_indexB hu) ho (pa_cons he pa_nil hs) hbase hfew hline hs hplain
theorem way_true {sp : List Sn} {ws : List Stp} (hin : WayIn sp.length ws) (hne : ws ≠ []) (hz : zipB sp ws = true) : wayB sp (wayP ws) = true := by
  obtain ⟨e1, e2⟩ := rows_steps ws hin
  show (!(rowsD Stp.row ws).isEmpty && ((rowsD Stp.row ws).all (stepB sp.length) && zipB sp ((rowsD Stp.row ws).filterMap (stepD sp.length)))) = true
  rw [e1, e2, hz]
  cases ws with
  | nil => exact absurd rfl hne
  | cons _ _ => rfl
/-- what is known of the three classes -/
structure S3c (K : PySem.W.Frag) (mg : Str → Option Value) (C1 C2 C3 U c1 c2 c3 c4 : Addr) : Prop where
  m1 : mg "NoWay" = some (.ref C1)
  m2 : mg "TooWide" = some (.ref C2)
  m3 : mg "TooGreat" = some (.ref C3)
  n1 : mg "NoOrder" = some (.ref c1)
  n2 : mg "NoPlan" = some (.ref c2)
  n3 : mg "NoText" = some (.ref c3)
  n4 : mg "OtherBeats" = some (.ref c4)
  cl1 : XCls K C1
  cl2 : XCls K C2
  cl3 : XCls K C3
  un1 : Under K C1 U
  un2 : Under K C2 U
  un3 : Under K C3 U
  k12 : PySem.W.kitOne K (.ref C1) (.ref C2) = some false
  k13 : PySem.W.kitOne K (.ref C1) (.ref C3) = some false
  k21 : PySem.W.kitOne K (.ref C2) (.ref C1) = some false
  k23 : PySem.W.kitOne K (.ref C2) (.ref C3) = some false
  k31 : PySem.W.kitOne K (.ref C3) (.ref C1) = some false
  k32 : PySem.W.kitOne K (.ref C3) (.ref C2) = some false
  no1 : PySem.W.kitAny K (.ref C1) [.ref c1, .ref c2, .ref c3, .ref c4] = some false
  no2 : PySem.W.kitAny K (.ref C2) [.ref c1, .ref c2, .ref c3, .ref c4] = some false
  no3 : PySem.W.kitAny K (.ref C3) [.ref c1, .ref c2, .ref c3, .ref c4] = some false
section
variable {P : Program} {w : World} {K : PySem.W.Frag} {mg : Str → Option Value} {base : Heap}
theorem scTold : FnScope ["_law_net_here", "_law_way", "_law_told_here", "_law_marks", "e"] ["_law_net_here", "_law_way"] (defScope sTold) := ⟨rfl, rfl, rfl, by decide +kernel, rfl, by decide +kernel, by decide +kernel⟩
theorem ok_told {f f1 C1 C2 C3 U fi c1 c2 c3 c4 : Addr} {fd fd1 : FuncData} (F : Fun K "_law_told" "_law_told" sTold f fd) (T : Nm mg) (TG : TGc K mg C3 U fi) (S : S3c K mg C1 C2 C3 U c1 c2 c3 c4) (TU : Exc K mg "HourError" U)
    (G1 : Fn K mg "summed" sSummed ["net", "way"] f1 fd1) (F1 : FnOk P w K mg base (CXN P w) 5 f1 fd1 ["net", "way"] (spSummedX C1 C2 C3)) : FnOk P w K mg base CX0 6 f fd ["_law_net_here", "_law_way"] spDueS := by
  refine F.ok scTold (fun vs H Q E h => by obtain ⟨v, u, b, m, sp, d, rfl, _⟩ := h; rfl) (fun cdv A outer s H vs Q E hr h => ?_)
  obtain ⟨v, u, b, m, sp, d, rfl, hv, hu', fine, NT, k⟩ := h
  have hu := hr.units
  refine ⟨_, pss_cons (ps_set (i := 2) scTold.nd rfl (Or.inl rfl) (pe_lstA pa_nil))
    (pss_cons (ps_tryAs (iN := 4) rfl rfl scTold.nd rfl rfl TU (fun pn W σ0 E hp => (pss_one (ps_set (i := 2) scTold.nd rfl (Or.inl rfl) (pe_lstA (pa_cons pe_str (pa_cons (pe_callS F1 hr rfl G1.mg G1.F.kp G1.b .nil hp (pa_cons (pv 0) (pa_cons (pv 1) pa_nil))) pa_nil))))))
      (fun pn e => (PSl.h (l_cons ⟨(ps_set (i := 3) scTold.nd rfl (Or.inl rfl) (pe_lstA (pa_cons (pe_callB (isxK K) rfl T.isin boot_isinstance (pa_cons (pv 4) (pa_cons (pe_glob (v := .ref C1) rfl S.m1 rfl) pa_nil))) (pa_cons (pe_callB (isxK K) rfl T.isin boot_isinstance (pa_cons (pv 4) (pa_cons (pe_glob (v := .ref C2) rfl S.m2 rfl) pa_nil))) (pa_cons (pe_callB (isxK K) rfl T.isin boot_isinstance (pa_cons (pv 4) (pa_cons (pe_glob (v := .ref C3) rfl S.m3 rfl) pa_nil))) pa_nil)))))⟩ (l_cons ⟨(ps_if (PW.pt (pw_and (pt_cmpR op_eq (countK K hu (pv 3) pe_bl) pe_int (nomark _)) (pw_and1 (pt_not (pt_val (pe_callB (isxTK K) rfl T.isin boot_isinstance (pa_cons (pv 4) (pa_cons (pe_tupA (pa_cons (pe_glob (v := .ref c1) rfl S.n1 rfl) (pa_cons (pe_glob (v := .ref c2) rfl S.n2 rfl) (pa_cons (pe_glob (v := .ref c3) rfl S.n3 rfl) (pa_cons (pe_glob (v := .ref c4) rfl S.n4 rfl) pa_nil))))) pa_nil)))))))) (pss_one (ps_set (i := 2) scTold.nd rfl (Or.inl rfl) (pe_lstA (pa_cons (pe_ix (r := rIxL K) ix_list (pe_lstA (pa_cons pe_str (pa_cons pe_str (pa_cons pe_str pa_nil)))) (indexK K hu (pv 3) pe_bl) (fun _ _ => rfl)) pa_nil)))) pss_nil)⟩ (l_one ⟨(ps_if (pt_val (pe_ix (r := rIxL K) ix_list (pv 3) pe_int (fun _ _ => rfl))) (pss_one (ps_set (i := 2) scTold.nd rfl (Or.inl rfl) (pe_op op_catL (pv 2) (pe_lstA (pa_cons (xfldK K (pv 4)) (pa_cons (xfldK K (pv 4)) pa_nil)))))) pss_nil)⟩))))))
    (pss_one (ps_ret (pv 2)))), ?_⟩
  refine ⟨Nat.zero_le _, fun l0 H2 S02 h2 => ?_⟩
  refine ⟨rfl, _, rfl, _, rfl, v, u, b, m, sp, d, rfl, hv.same S02, hu'.same S02, fine, (by have := NT.b1; omega), NT.few, fun no H3 S3 => ?_, fun ws eW hin hne hz => ⟨fun eq H3 S3 => ?_, fun hc hw H3 S3 => ?_, fun hc hw hg D H3 S3 eD => ?_, fun hc hw hg u' H3 S3 hu3 => ?_⟩⟩
  · refine ⟨C1, rfl, S.un1, fun a na => ?_⟩
    have SA : Same H3 (upd H3 a (isExc a C1 none)) := Same.put (Same.refl H3) na
    have eA : (upd H3 a (isExc a C1 none)) a = some (isExc a C1 none) := upd_same
    have S0A : Same H (upd H3 a (isExc a C1 none)) := S02.trans (S3.trans SA)
    generalize upd H3 a (isExc a C1 none) = HA at SA eA S0A ⊢
    refine ⟨_, rfl, a, C1, none, true, ⟨C1, rfl, kit_self⟩, eA, (fun D' e => by cases e), S.cl1, _, rfl, a, C1, none, false, ⟨C2, rfl, S.k12⟩, eA, (fun D' e => by cases e), S.cl1, _, rfl, a, C1, none, false, ⟨C3, rfl, S.k13⟩, eA, (fun D' e => by cases e), S.cl1, (by show 3 ≤ sizeLine; decide), fun lm H4 S4 h4 => ?_⟩
    have h4 : H4 lm = some (.lst ([true, false, false].map V.bl)) := h4
    refine ⟨_, rfl, .inl ⟨rfl, _, SqL.of h4⟩, lm, [true, false, false], rfl, rfl, h4, rfl, _, rfl, iteB (by rfl) ?_⟩
    refine ⟨_, rfl, (by show 4 ≤ sizeLine; decide), fun tp H5 S5 h5 => ⟨a, C1, none, false, tp, [c1, c2, c3, c4], rfl, h5, S.no1, S5 _ _ (S4 _ _ eA), (fun D' e => by cases e), S.cl1, _, rfl, iteT ?_⟩⟩
    refine ⟨(by show 3 ≤ sizeLine; decide), fun l6 H6 S6 h6 => ⟨_, rfl, .inl ⟨rfl, _, SqL.of (S6 _ _ (S5 _ _ h4))⟩, lm, [true, false, false], 0, rfl, rfl, S6 _ _ (S5 _ _ h4), rfl, (by decide), (by decide), _, ⟨l6, _, _, rfl, rfl, SqL.of h6, atI_nat (j := 0) rfl⟩, (by show 1 ≤ sizeLine; decide), fun l7 H7 S7 h7 => ?_⟩⟩
    have S47 := S5.trans (S6.trans S7)
    have S07 := S0A.trans (S4.trans S47)
    refine ⟨_, rfl, _, ⟨lm, _, _, rfl, rfl, SqL.of (S47 _ _ h4), atI_nat (j := 2) rfl⟩, _, rfl, ?_⟩
    refine iteF ?_
    refine ⟨_, rfl, k l7 _ H7 S07 h7 ?_⟩
    rw [dueD_no (.inl no)]
    exact .cons (.str _) .nil
  · subst eW
    refine ⟨C1, rfl, S.un1, fun a na => ?_⟩
    have SA : Same H3 (upd H3 a (isExc a C1 none)) := Same.put (Same.refl H3) na
    have eA : (upd H3 a (isExc a C1 none)) a = some (isExc a C1 none) := upd_same
    have S0A : Same H (upd H3 a (isExc a C1 none)) := S02.trans (S3.trans SA)
    generalize upd H3 a (isExc a C1 none) = HA at SA eA S0A ⊢
    refine ⟨_, rfl, a, C1, none, true, ⟨C1, rfl, kit_self⟩, eA, (fun D' e => by cases e), S.cl1, _, rfl, a, C1, none, false, ⟨C2, rfl, S.k12⟩, eA, (fun D' e => by cases e), S.cl1, _, rfl, a, C1, none, false, ⟨C3, rfl, S.k13⟩, eA, (fun D' e => by cases e), S.cl1, (by show 3 ≤ sizeLine; decide), fun lm H4 S4 h4 => ?_⟩
    have h4 : H4 lm = some (.lst ([true, false, false].map V.bl)) := h4
    refine ⟨_, rfl, .inl ⟨rfl, _, SqL.of h4⟩, lm, [true, false, false], rfl, rfl, h4, rfl, _, rfl, iteB (by rfl) ?_⟩
    refine ⟨_, rfl, (by show 4 ≤ sizeLine; decide), fun tp H5 S5 h5 => ⟨a, C1, none, false, tp, [c1, c2, c3, c4], rfl, h5, S.no1, S5 _ _ (S4 _ _ eA), (fun D' e => by cases e), S.cl1, _, rfl, iteT ?_⟩⟩
    refine ⟨(by show 3 ≤ sizeLine; decide), fun l6 H6 S6 h6 => ⟨_, rfl, .inl ⟨rfl, _, SqL.of (S6 _ _ (S5 _ _ h4))⟩, lm, [true, false, false], 0, rfl, rfl, S6 _ _ (S5 _ _ h4), rfl, (by decide), (by decide), _, ⟨l6, _, _, rfl, rfl, SqL.of h6, atI_nat (j := 0) rfl⟩, (by show 1 ≤ sizeLine; decide), fun l7 H7 S7 h7 => ?_⟩⟩
    have S47 := S5.trans (S6.trans S7)
    have S07 := S0A.trans (S4.trans S47)
    refine ⟨_, rfl, _, ⟨lm, _, _, rfl, rfl, SqL.of (S47 _ _ h4), atI_nat (j := 2) rfl⟩, _, rfl, ?_⟩
    refine iteF ?_
    refine ⟨_, rfl, k l7 _ H7 S07 h7 ?_⟩
    rw [dueD_no (.inr (by rw [wsOf_way hin]; exact eq))]
    exact .cons (.str _) .nil
  · subst eW
    have qW := way_true hin hne hz
    refine ⟨C2, rfl, S.un2, fun a na => ?_⟩
    have SA : Same H3 (upd H3 a (isExc a C2 none)) := Same.put (Same.refl H3) na
    have eA : (upd H3 a (isExc a C2 none)) a = some (isExc a C2 none) := upd_same
    have S0A : Same H (upd H3 a (isExc a C2 none)) := S02.trans (S3.trans SA)
    generalize upd H3 a (isExc a C2 none) = HA at SA eA S0A ⊢
    refine ⟨_, rfl, a, C2, none, false, ⟨C1, rfl, S.k21⟩, eA, (fun D' e => by cases e), S.cl2, _, rfl, a, C2, none, true, ⟨C2, rfl, kit_self⟩, eA, (fun D' e => by cases e), S.cl2, _, rfl, a, C2, none, false, ⟨C3, rfl, S.k23⟩, eA, (fun D' e => by cases e), S.cl2, (by show 3 ≤ sizeLine; decide), fun lm H4 S4 h4 => ?_⟩
    have h4 : H4 lm = some (.lst ([false, true, false].map V.bl)) := h4
    refine ⟨_, rfl, .inl ⟨rfl, _, SqL.of h4⟩, lm, [false, true, false], rfl, rfl, h4, rfl, _, rfl, iteB (by rfl) ?_⟩
    refine ⟨_, rfl, (by show 4 ≤ sizeLine; decide), fun tp H5 S5 h5 => ⟨a, C2, none, false, tp, [c1, c2, c3, c4], rfl, h5, S.no2, S5 _ _ (S4 _ _ eA), (fun D' e => by cases e), S.cl2, _, rfl, iteT ?_⟩⟩
    refine ⟨(by show 3 ≤ sizeLine; decide), fun l6 H6 S6 h6 => ⟨_, rfl, .inl ⟨rfl, _, SqL.of (S6 _ _ (S5 _ _ h4))⟩, lm, [false, true, false], 1, rfl, rfl, S6 _ _ (S5 _ _ h4), rfl, (by decide), (by decide), _, ⟨l6, _, _, rfl, rfl, SqL.of h6, atI_nat (j := 1) rfl⟩, (by show 1 ≤ sizeLine; decide), fun l7 H7 S7 h7 => ?_⟩⟩
    have S47 := S5.trans (S6.trans S7)
    have S07 := S0A.trans (S4.trans S47)
    refine ⟨_, rfl, _, ⟨lm, _, _, rfl, rfl, SqL.of (S47 _ _ h4), atI_nat (j := 2) rfl⟩, _, rfl, ?_⟩
    refine iteF ?_
    refine ⟨_, rfl, k l7 _ H7 S07 h7 ?_⟩
    rw [dueD_wide qW hin hc hw]
    exact .cons (.str _) .nil
  · subst eW
    have qW := way_true hin hne hz
    refine ⟨C3, rfl, S.un3, fun a na => ?_⟩
    have SA : Same H3 (upd H3 a (isExc a C3 (some D))) := Same.put (Same.refl H3) na
    have eA : (upd H3 a (isExc a C3 (some D))) a = some (isExc a C3 (some D)) := upd_same
    have eDA := SA _ _ eD
    have S0A : Same H (upd H3 a (isExc a C3 (some D))) := S02.trans (S3.trans SA)
    generalize upd H3 a (isExc a C3 (some D)) = HA at SA eA S0A eDA ⊢
    have hd : ∀ {H' : Hp}, Same HA H' → ∀ D', some D = some D' → ∃ fs, H' D' = some (XD D' fs) := fun S D' e => by cases e; exact ⟨_, S _ _ eDA⟩
    refine ⟨_, rfl, a, C3, (some D), false, ⟨C1, rfl, S.k31⟩, eA, (hd (Same.refl HA)), S.cl3, _, rfl, a, C3, (some D), false, ⟨C2, rfl, S.k32⟩, eA, (hd (Same.refl HA)), S.cl3, _, rfl, a, C3, (some D), true, ⟨C3, rfl, kit_self⟩, eA, (hd (Same.refl HA)), S.cl3, (by show 3 ≤ sizeLine; decide), fun lm H4 S4 h4 => ?_⟩
    have h4 : H4 lm = some (.lst ([false, false, true].map V.bl)) := h4
    refine ⟨_, rfl, .inl ⟨rfl, _, SqL.of h4⟩, lm, [false, false, true], rfl, rfl, h4, rfl, _, rfl, iteB (by rfl) ?_⟩
    refine ⟨_, rfl, (by show 4 ≤ sizeLine; decide), fun tp H5 S5 h5 => ⟨a, C3, (some D), false, tp, [c1, c2, c3, c4], rfl, h5, S.no3, S5 _ _ (S4 _ _ eA), (hd (S4.trans S5)), S.cl3, _, rfl, iteT ?_⟩⟩
    refine ⟨(by show 3 ≤ sizeLine; decide), fun l6 H6 S6 h6 => ⟨_, rfl, .inl ⟨rfl, _, SqL.of (S6 _ _ (S5 _ _ h4))⟩, lm, [false, false, true], 2, rfl, rfl, S6 _ _ (S5 _ _ h4), rfl, (by decide), (by decide), _, ⟨l6, _, _, rfl, rfl, SqL.of h6, atI_nat (j := 2) rfl⟩, (by show 1 ≤ sizeLine; decide), fun l7 H7 S7 h7 => ?_⟩⟩
    have S47 := S5.trans (S6.trans S7)
    have S07 := S0A.trans (S4.trans S47)
    refine ⟨_, rfl, _, ⟨lm, _, _, rfl, rfl, SqL.of (S47 _ _ h4), atI_nat (j := 2) rfl⟩, _, rfl, ?_⟩
    refine iteT ?_
    refine ⟨_, rfl, _, rfl, a, C3, D, _, _, rfl, S4.trans S47 _ _ eA, S4.trans S47 _ _ eDA, S.cl3, TG.na1, tgF_many, _, rfl, a, C3, D, _, _, rfl, S4.trans S47 _ _ eA, S4.trans S47 _ _ eDA, S.cl3, TG.na2, tgF_most, (by show 2 ≤ sizeLine; decide), fun l8 H8 S8 h8 => ?_⟩
    refine ⟨l7, l8, _, _, rfl, rfl, S8 _ _ h7, h8, (by show 3 ≤ sizeLine; decide), fun l9 H9 S9 h9 => ?_⟩
    refine ⟨_, rfl, k l9 _ H9 (S07.trans (S8.trans S9)) h9 ?_⟩
    rw [dueD_great qW hin hc (by omega) hg]
    exact .cons (.str _) (.cons (.int _) (.cons (.int _) .nil))
  · subst eW
    have qW := way_true hin hne hz
    refine ⟨(by show 2 ≤ sizeLine; decide), fun L H4 S4 h4 => ⟨_, rfl, k L _ H4 (S02.trans (S3.trans S4)) h4 ?_⟩⟩
    rw [dueD_net qW hin hc (by omega) (by omega)]
    exact .cons (.str _) (.cons (hu3.same S4) .nil)
end
end HN

/-! k62: a bent way. -/
namespace HN
open PySem L2 PyProof.Rows
abbrev sBentS : Stmt := top 41
/-- an item that is fine -/
def FineE (e : Dt) : Prop := ∀ x y, e = .tup [x, .int y] → y.natAbs < 10 ^ 400
def FineL (ds : List Dt) : Prop := ∀ e ∈ ds, FineE e
theorem FineL.app {a b : List Dt} (h : FineL a) (k : FineL b) : FineL (a ++ b) := fun e he => by
  rcases List.mem_append.mp he with he | he
  · exact h e he
  · exact k e he
theorem FineL.cut {ds : List Dt} (h : FineL ds) (a b : Nat) : FineL ((ds.drop a).take b) := fun e he => h e (List.mem_of_mem_drop (List.mem_of_mem_take he))
theorem FineL.one {d : Dt} (h : FineE d) : FineL [d] := fun e he => by rw [List.mem_singleton.mp he]; exact h
theorem fine_rows {n : Nat} {ws : List Stp} (h : WayIn n ws) : FineL (rowsD Stp.row ws) := fun e he x y z => by
  obtain ⟨s, hs, rfl⟩ := List.mem_map.mp he
  have z : Dt.tup [.int (s.i : Nat), .int s.d] = .tup [x, .int y] := z
  injection z with z
  injection z with _ z
  injection z with z _
  injection z with z
  rw [← z]
  have := (h s hs).2
  have h4 : (1 : Nat) < 10 ^ 400 := Nat.one_lt_pow (by decide) (by decide)
  rcases this with e | e <;> rw [e] <;> exact h4
theorem small400 {y : Int} (h : y.natAbs ≤ 1000) : y.natAbs < 10 ^ 400 := by
  have h4 : (1000 : Nat) < 10 ^ 400 := Nat.lt_of_lt_of_le (show 1000 < 10 ^ 4 by decide) (Nat.pow_le_pow_right (by decide) (by decide))
  omega
theorem fineE_pair {a : Dt} {i : Int} (h : i.natAbs ≤ 1000) : FineE (.tup [a, .int i]) := fun x y z => by
  injection z with z
  injection z with _ z
  injection z with z _
  injection z with z
  rw [← z]; exact small400 h
def Thg (H : Hp) (v : V) : Prop := ∃ d, IsD H v d ∧ Fine d
theorem Thg.same {H H' : Hp} (e : Same H H') {v : V} (h : Thg H v) : Thg H' v := let ⟨d, a, b⟩ := h; ⟨d, a.same e, b⟩
/-- a list that is written, a box that turns: data told of lists only by their sort stand -/
theorem isd_but {p : Addr} {H H' : Hp} {xs ys : List V} (hp : H p = some (.lst xs)) (hp' : H' p = some (.lst ys)) (e : ∀ b o, b ≠ p → H b = some o → H' b = some o) : (∀ {v : V} {d : Dt}, IsD H v d → IsD H' v d) ∧ (∀ {vs : List V} {ds : List Dt}, IsDs H vs ds → IsDs H' vs ds) := by
  have key : ∀ n : Nat, (∀ (v : V) (d : Dt), sizeOf d ≤ n → IsD H v d → IsD H' v d) ∧ (∀ (vs : List V) (ds : List Dt), sizeOf ds ≤ n → IsDs H vs ds → IsDs H' vs ds) := by
    intro n
    induction n with
    | zero =>
      refine ⟨fun v d h => ?_, fun vs ds h => ?_⟩
      · cases d <;> simp at h
      · cases ds <;> simp at h
    | succ n ih =>
      refine ⟨fun v d hn h => ?_, fun vs ds hn h => ?_⟩
      · cases h with
        | non => exact .non
        | bl b => exact .bl b
        | int i => exact .int i
        | str x => exact .str x
        | tup h r => exact .tup (e _ _ (ne_of h hp (by intro z; cases z)) h) (ih.2 _ _ (by simp at hn; omega) r)
        | @lst a xs h =>
          by_cases q : a = p
          · subst q; exact .lst hp'
          · exact .lst (e _ _ q h)
        | dct h => exact .dct (e _ _ (ne_of h hp (by intro z; cases z)) h)
      · cases h with
        | nil => exact .nil
        | cons h r => exact .cons (ih.1 _ _ (by simp at hn; omega) h) (ih.2 _ _ (by simp at hn; omega) r)
  exact ⟨fun {v d} h => (key _).1 v d (Nat.le_refl _) h, fun {vs ds} h => (key _).2 vs ds (Nat.le_refl _) h⟩
theorem isd_upd {p : Addr} {H : Hp} {xs ys : List V} (hp : H p = some (.lst xs)) {v : V} {d : Dt} (h : IsD H v d) : IsD (upd H p (.lst ys)) v d := (isd_but hp upd_same fun b o hb e => by rw [upd_ne hb]; exact e).1 h
theorem isd_mb {p : Addr} {H H' : Hp} {x y : Int} (hp : H p = some (.lst [.int x, .int y])) {v : V} {d : Dt} (h : IsD H v d) (M : Mb p H H') : IsD H' v d := by
  obtain ⟨x', y', hp'⟩ := M.2
  exact (isd_but hp hp' M.1).1 h
theorem fine_of {ds : List Dt} (h : FineL ds) (hl : ds.length ≤ 1000) : Fine (.tup ds) := fun es e => by cases e; exact ⟨hl, h⟩
theorem fine_no {d : Dt} (h : ∀ ds, d ≠ .tup ds) : Fine d := fun es e => absurd e (h es)
theorem cut_len {α : Type} (l : List α) (a b : Nat) : ((l.drop a).take b).length ≤ l.length := by rw [List.length_take, List.length_drop]; omega
def spBent : Sp := fun vs H Q _ => ∃ (p : Addr) (x y : Int) (v : V) (pw : Addr) (b m : Int) (sp : List Sn) (ws : List Stp), vs = [.ref p, v, .ref pw] ∧ H p = some (.lst [.int x, .int y]) ∧ IsD H v (netP b m sp) ∧ sp.length ≤ 40 ∧ IsD H (.ref pw) (wayP ws) ∧ WayIn sp.length ws ∧ ws.length ≤ 12 ∧
  ∀ u d H', Mb p H H' → IsD H' u d → Fine d → Q u H'
section
variable {P : Program} {w : World} {K : PySem.W.Frag} {mg : Str → Option Value} {base : Heap}
theorem scBentS : FnScope ["_law_box_here", "_law_net_here", "_law_way", "_law_at", "_law_odd"] ["_law_box_here", "_law_net_here", "_law_way"] (defScope sBentS) := ⟨rfl, rfl, rfl, by decide +kernel, rfl, by decide +kernel, by decide +kernel⟩
theorem ok_bentS {f f1 : Addr} {fd fd1 : FuncData} (F : Fun K "_law_bent" "_law_bent" sBentS f fd) (T : Nm mg) (G1 : Fn K mg "_law_draw" sDraw ["_law_box_here", "_law_most"] f1 fd1) : FnOk P w K mg base CX0 2 f fd ["_law_box_here", "_law_net_here", "_law_way"] spBent := by
  have F1 : FnOk P w K mg base CX0 1 f1 fd1 ["_law_box_here", "_law_most"] spDraw := ok_draw G1.F
  refine F.ok scBentS (fun vs H Q E h => by obtain ⟨p, x, y, v, pw, b, m, sp, ws, rfl, _⟩ := h; rfl) (fun cdv A outer s H vs Q E hr h => ?_)
  obtain ⟨p, x, y, v, pw, b, m, sp, ws, rfl, hp, hv, few, huw, hin, hlw, k⟩ := h
  obtain ⟨t, pn, ys, rfl, ht, hpn, hl, hy⟩ := netP_of hv
  obtain ⟨pw', yw, e0, hpw, hlyw, rw'⟩ := rows_of huw
  cases e0
  have fW := fine_rows hin
  have hrl : (rowsD Stp.row ws).length ≤ 12 := by unfold rowsD; rw [List.length_map]; exact hlw
  refine ⟨_, PSl.h (l_cons ⟨(ps_set (i := 3) scBentS.nd rfl (Or.inl rfl) (pc1 G1 F1 hr (pa_cons (pv 0) (pa_cons (pe_op op_add (pe_callB (lenN K) rfl T.len PySem.boot_len (pa_cons (pv 2) pa_nil)) pe_int) pa_nil))))⟩
    (l_cons ⟨(ps_set (i := 4) scBentS.nd rfl (Or.inl rfl) (pe_lst (pa_cons (pe_tupA (pa_cons pe_int (pa_cons pe_bl pa_nil))) (pa_cons (pe_tupA (pa_cons (pe_callB (lenN K) rfl T.len PySem.boot_len (pa_cons (pe_ix (ixNT K) (pv 1) pe_int (fun _ _ => rfl)) pa_nil)) (pa_cons pe_int pa_nil))) (pa_cons (pe_tupA (pa_cons (pe_un un_neg pe_int) (pa_cons pe_int pa_nil))) (pa_cons (pe_tupA (pa_cons pe_int (pa_cons pe_int pa_nil))) (pa_cons (pe_tupA (pa_cons pe_int (pa_cons (pe_un un_neg pe_int) (pa_cons pe_int pa_nil)))) (pa_cons (pe_lstA (pa_cons pe_int (pa_cons pe_int pa_nil))) (pa_cons pe_non pa_nil)))))))))⟩
    (l_cons ⟨(ps_expr (bmN K PySem.F.plainAttrs_list PySem.F.slot_list_append PySem.F.type_list_append mt_append (pv 4) (pa_cons (pe_tupA (pa_cons (pc1 G1 F1 hr (pa_cons (pv 0) (pa_cons (pe_op op_add (pe_callB (lenN K) rfl T.len PySem.boot_len (pa_cons (pe_ix (ixNT K) (pv 1) pe_int (fun _ _ => rfl)) pa_nil)) pe_int) pa_nil))) (pa_cons (pe_un un_neg pe_int) pa_nil))) pa_nil)))⟩
    (l_one ⟨(ps_ret (pe_op (catN K) (pe_op (catN K) (pe_slice sl_tupN (pv 2) po_none (po_some (pv 3))) (pe_tupA (pa_cons (pe_ix (ixNL K) (pv 4) (pc1 G1 F1 hr (pa_cons (pv 0) (pa_cons pe_int pa_nil))) (fun _ _ => rfl)) pa_nil))) (pe_slice sl_tupN (pv 2) (po_some (pe_op op_add (pv 3) (pc1 G1 F1 hr (pa_cons (pv 0) (pa_cons pe_int pa_nil))))) po_none)))⟩)))), ?_⟩
  -- a place
  refine ⟨_, rfl, _, rfl, pw, _, rfl, .inr (SqT.of hpw), p, x, y, _, rfl, hp, by omega, by omega, fun at' H1 a0 a1 M1 => ?_⟩
  have T1 := Mb.tupK hp M1
  have s2 : (2 : Nat) ≤ sizeLine := by decide
  -- odd things
  refine ⟨s2, fun q1 J1 U1 g1 => ?_⟩
  refine ⟨_, rfl, _, ⟨t, _, _, rfl, rfl, SqT.of (U1 _ _ (T1 _ _ ht)), atI_nat (j := 2) rfl⟩, pn, _, rfl, .inr (SqT.of (U1 _ _ (T1 _ _ hpn))), s2, fun q2 J2 U2 g2 => ?_⟩
  refine ⟨_, rfl, s2, fun q3 J3 U3 g3 => ⟨s2, fun q4 J4 U4 g4 => ⟨_, rfl, (by show 3 ≤ sizeLine; decide), fun q5 J5 U5 g5 => ⟨s2, fun q6 J6 U6 g6 => ⟨(by show 7 ≤ sizeLine; decide), fun LO nLO => ?_⟩⟩⟩⟩⟩
  have V5 := U6
  have V4 := U5.trans V5
  have V3 := U4.trans V4
  have V2 := U3.trans V3
  have V1 := U2.trans V2
  have M6 : Mb p H J6 := (M1.then U1).then V1
  have hodd : ∀ v ∈ ([.ref q1, .ref q2, .ref q3, .ref q4, .ref q5, .ref q6, .non] : List V), ∃ d, IsD J6 v d ∧ FineE d := by
    intro v hv'
    simp only [List.mem_cons, List.not_mem_nil, or_false] at hv'
    rcases hv' with rfl | rfl | rfl | rfl | rfl | rfl | rfl
    · exact ⟨_, .tup (V1 _ _ g1) (.cons (.int 0) (.cons (.bl true) .nil)), fun x y z => by cases z⟩
    · exact ⟨_, .tup (V2 _ _ g2) (.cons (.int _) (.cons (.int 1) .nil)), fineE_pair (by decide)⟩
    · exact ⟨_, .tup (V3 _ _ g3) (.cons (.int _) (.cons (.int 1) .nil)), fineE_pair (by decide)⟩
    · exact ⟨_, .tup (V4 _ _ g4) (.cons (.int 0) (.cons (.int 0) .nil)), fineE_pair (by decide)⟩
    · exact ⟨_, .tup (V5 _ _ g5) (.cons (.int 0) (.cons (.int _) (.cons (.int 1) .nil))), fun x y z => by cases z⟩
    · exact ⟨.oth "list", .lst g6, fun x y z => by cases z⟩
    · exact ⟨_, .non, fun x y z => by cases z⟩
  have lenO : ([.ref q1, .ref q2, .ref q3, .ref q4, .ref q5, .ref q6, .non] : List V).length = 7 := rfl
  have UO : Same J6 (upd J6 LO (.lst [.ref q1, .ref q2, .ref q3, .ref q4, .ref q5, .ref q6, .non])) := Same.put (Same.refl J6) nLO
  have gO : (upd J6 LO (.lst [.ref q1, .ref q2, .ref q3, .ref q4, .ref q5, .ref q6, .non])) LO = some (.lst [.ref q1, .ref q2, .ref q3, .ref q4, .ref q5, .ref q6, .non]) := upd_same
  generalize upd J6 LO (.lst [.ref q1, .ref q2, .ref q3, .ref q4, .ref q5, .ref q6, .non]) = JO at UO gO ⊢
  generalize ([.ref q1, .ref q2, .ref q3, .ref q4, .ref q5, .ref q6, .non] : List V) = odds at hodd lenO gO
  have hLOp : LO ≠ p := fun z => by
    obtain ⟨xx, yy, hh⟩ := M6.2
    rw [z, hh] at nLO; cases nLO
  have MO := M6.then UO
  have hpO := MO.box
  have TO := Mb.tupK hp MO
  -- one more
  refine ⟨_, rfl, .inl ⟨rfl, _, SqL.of gO⟩, _, rfl, _, rfl, _, ⟨t, _, _, rfl, rfl, SqT.of (TO _ _ ht), atI_nat (j := 2) rfl⟩, pn, _, rfl, .inr (SqT.of (TO _ _ hpn)), p, _, _, _, rfl, hpO, by omega, by omega, fun c1 L1 c10 c11 N1 => ⟨_, rfl, s2, fun q8 L2 X2 x2 => ?_⟩⟩
  have gO2 := X2 _ _ (N1.at gO hLOp)
  refine ⟨LO, _, _, rfl, rfl, gO2, (by rw [lenO]; show 7 < sizeLine; decide), ?_⟩
  have hodd3 : ∀ v ∈ odds ++ [.ref q8], ∃ d, IsD (upd L2 LO (.lst (odds ++ [.ref q8]))) v d ∧ FineE d := by
    intro v hv'
    rcases List.mem_append.mp hv' with hv' | hv'
    · obtain ⟨d, h1, h2⟩ := hodd v hv'
      exact ⟨d, isd_upd gO2 ((isd_mb hpO (h1.same UO) N1).same X2), h2⟩
    · rw [List.mem_singleton.mp hv']
      exact ⟨_, isd_upd gO2 (.tup x2 (.cons (.int c1) (.cons (.int (-1)) .nil))), fineE_pair (by decide)⟩
  have len3 : (odds ++ [V.ref q8]).length = 8 := by rw [List.length_append, lenO]; rfl
  have M3 : Mb p H (upd L2 LO (.lst (odds ++ [.ref q8]))) := by
    obtain ⟨x', y', h'⟩ := N1.2
    refine ⟨fun c o hc e => ?_, x', y', ?_⟩
    · have e6 := M6.1 c o hc e
      rw [upd_ne (ne_of_none e6 nLO)]
      exact X2 _ _ (N1.1 c o hc (UO _ _ e6))
    · rw [upd_ne (fun z => hLOp z.symm)]
      exact X2 _ _ h'
  have g3 : (upd L2 LO (.lst (odds ++ [.ref q8]))) LO = some (.lst (odds ++ [.ref q8])) := upd_same
  generalize upd L2 LO (.lst (odds ++ [.ref q8])) = L3 at hodd3 M3 g3 ⊢
  generalize odds ++ [V.ref q8] = odd3 at hodd3 len3 g3
  have hp3 := M3.box
  have T3 := Mb.tupK hp M3
  have lyw : yw.length ≤ 12 := by omega
  have cl : ∀ lo hi, (cutV yw lo hi).length ≤ 12 := fun lo hi => Nat.le_trans (cutV_length yw lo hi) lyw
  -- put there
  refine ⟨_, rfl, _, rfl, _, rfl, pw, _, rfl, T3 _ _ hpw, fun u1 A1 B1 b1 => ?_⟩
  have hp5 := B1 _ _ hp3
  refine ⟨_, rfl, _, rfl, p, _, _, 8, rfl, hp5, by decide, by decide, fun rr A2 r0 r1' O2 => ?_⟩
  have b2 := Mb.tupK hp5 O2 _ _ b1
  have gQ : A2 LO = some (.lst odd3) := O2.at (B1 _ _ g3) hLOp
  obtain ⟨vo, eo, mo⟩ := atI_in (xs := odd3) r0 (by rw [len3]; exact r1')
  obtain ⟨dO, stO, fO⟩ := hodd3 vo mo
  have stO2 := isd_mb hp5 (stO.same B1) O2
  refine ⟨_, ⟨LO, _, _, rfl, rfl, SqL.of gQ, eo⟩, (by show 1 ≤ sizeLine; decide), fun u2 A3 B3 b3 => ?_⟩
  refine ⟨u1, u2, _, _, rfl, rfl, B3 _ _ b2, b3, Nat.le_trans (Nat.add_le_add (cl _ _) (Nat.le_refl 1)) (by decide : 12 + 1 ≤ sizeLine), fun u3 A4 B4 b4 => ?_⟩
  have M4 := (((M3.then B1).trans O2).then B3).then B4
  have hp4 := M4.box
  refine ⟨_, rfl, _, rfl, _, rfl, p, _, _, 2, rfl, hp4, by decide, by decide, fun r2 A5 _ _ O5 => ?_⟩
  have b5 := Mb.tupK hp4 O5 _ _ b4
  have M5 := M4.trans O5
  refine ⟨_, rfl, pw, _, rfl, Mb.tupK hp M5 _ _ hpw, fun u4 A6 B6 b6 => ?_⟩
  refine ⟨u3, u4, _, _, rfl, rfl, B6 _ _ b5, b6, (by rw [List.length_append]; exact Nat.le_trans (Nat.add_le_add (Nat.add_le_add (cl _ _) (Nat.le_refl 1)) (cl _ _)) (by decide : 12 + 1 + 12 ≤ sizeLine)), fun u5 A7 B7 b7 => ?_⟩
  have M7 := (M5.then B6).then B7
  have rr7 : IsDs A7 yw (rowsD Stp.row ws) := rows_keep (Mb.tupK hp M7) rw'
  have st7 : IsD A7 vo dO := ((isd_mb hp4 ((stO2.same B3).same B4) O5).same B6).same B7
  refine k (.ref u5) (.tup _) A7 M7 (.tup b7 (((rr7.drop _).take _).append (.cons st7 .nil) |>.append ((rr7.drop _).take _))) (fine_of (((fW.cut _ _).app (FineL.one fO)).app (fW.cut _ _)) ?_)
  rw [List.length_append, List.length_append]
  exact Nat.le_trans (Nat.add_le_add (Nat.add_le_add (Nat.le_trans (cut_len _ _ _) hrl) (Nat.le_refl 1)) (Nat.le_trans (cut_len _ _ _) hrl)) (by decide)
end
end HN

/-! k62: a net of forty spans. -/
namespace HN
open PySem L2 PyProof.Rows
abbrev sFill : Stmt := top 42
def spFill : Sp := fun vs H Q _ => ∃ (p : Addr) (x y : Int) (t : Addr) (b m : Int) (sp : List Sn), vs = [.ref p, .ref t] ∧ H p = some (.lst [.int x, .int y]) ∧ IsD H (.ref t) (netP b m sp) ∧ NetT b m sp ∧ b ≤ 10 ^ 33 ∧ 2 ≤ m ∧
  ∀ t' sp' H', Mb p H H' → IsD H' (.ref t') (netP b m sp') → NetT b m sp' → Q (.ref t') H'
section
variable {P : Program} {w : World} {K : PySem.W.Frag} {mg : Str → Option Value} {base : Heap}
theorem scFill : FnScope ["_law_box_here", "_law_net_here", "_law_spans"] ["_law_box_here", "_law_net_here"] (defScope sFill) := ⟨rfl, rfl, rfl, by decide +kernel, rfl, by decide +kernel, by decide +kernel⟩
theorem ok_fill {f f1 : Addr} {fd fd1 : FuncData} (F : Fun K "_law_filled" "_law_filled" sFill f fd) (T : Nm mg) (T2 : Nt mg) (G1 : Fn K mg "_law_span" sSpanB ["_law_box_here", "_law_beat_here", "_law_many"] f1 fd1) (F1 : FnOk P w K mg base CX0 2 f1 fd1 ["_law_box_here", "_law_beat_here", "_law_many"] spSpanB) : FnOk P w K mg base CX0 3 f fd ["_law_box_here", "_law_net_here"] spFill := by
  refine F.ok scFill (fun vs H Q E h => by obtain ⟨p, x, y, t, b, m, sp, rfl, _⟩ := h; rfl) (fun cdv A outer s H vs Q E hr h => ?_)
  obtain ⟨p, x, y, t, b, m, sp, rfl, hp, hv, NT, b33, m2, k⟩ := h
  obtain ⟨t', pn, ys, e0, ht, hpn, dy⟩ := netP_rows hv
  cases e0
  refine ⟨_, PSl.h (l_cons ⟨(ps_set (i := 2) scFill.nd rfl (Or.inl rfl) (pe_callTy (lstN K) rfl T2.tlist boot_list (pa_cons (pe_ix (ixNT K) (pv 1) pe_int (fun _ _ => rfl)) pa_nil)))⟩
    (l_cons ⟨(ps_while PassesOwn.never (pt_cmpR op_lt (pe_callB (lenN K) rfl T.len PySem.boot_len (pa_cons (pv 2) pa_nil)) pe_int (nomark _)) (pss_one (ps_expr (bmN K PySem.F.plainAttrs_list PySem.F.slot_list_append PySem.F.type_list_append mt_append (pv 2) (pa_cons (pc1 G1 F1 hr (pa_cons (pv 0) (pa_cons (pe_ix (ixNT K) (pv 1) pe_int (fun _ _ => rfl)) (pa_cons (pe_ix (ixNT K) (pv 1) pe_int (fun _ _ => rfl)) pa_nil)))) pa_nil)))))⟩
    (l_one ⟨(ps_ret (pe_tupA (pa_cons (pe_ix (ixNT K) (pv 1) pe_int (fun _ _ => rfl)) (pa_cons (pe_ix (ixNT K) (pv 1) pe_int (fun _ _ => rfl)) (pa_cons (pe_callTy (tupN K) rfl T.ttup boot_tuple (pa_cons (pv 2) pa_nil)) pa_nil)))))⟩))), ?_⟩
  refine ⟨_, rfl, _, ⟨t, _, _, rfl, rfl, SqT.of ht, atI_nat (j := 2) rfl⟩, pn, _, rfl, .inr (SqT.of hpn), fun L nL => ?_⟩
  have S0 : Same H (upd H L (.lst ys)) := Same.put (Same.refl H) nL
  have hLp : L ≠ p := fun z => by rw [z, hp] at nL; cases nL
  refine ⟨fun n σ H' => ∃ (zs : List V) (sp' : List Sn), n = 40 - sp'.length ∧ σ = [some (.ref p), some (.ref t), some (.ref L)] ∧ H' L = some (.lst zs) ∧ IsDs H' zs (rowsD Sn.row sp') ∧ NetT b m sp' ∧ Mb p H H', ⟨_, ys, sp, rfl, rfl, upd_same, dy.same S0, NT, (Mb.refl hp).then S0⟩, ?_⟩
  rintro n σ H5 ⟨zs, sp', rfl, rfl, hL, dz, NT', M5⟩
  have hp5 := M5.box
  have lz : zs.length = sp'.length := by rw [dz.length]; unfold rowsD; rw [List.length_map]
  have ht5 := Mb.tupK hp M5 _ _ ht
  refine ⟨_, rfl, L, _, rfl, .inl (SqL.of hL), _, rfl, ?_⟩
  refine ite2 (fun hc => ?_) (fun hc => ?_)
  · have hc : (zs.length : Int) < 40 := of_decide_eq_true hc
    refine ⟨_, fun σ' H' z => z, ?_⟩
    refine ⟨_, rfl, .inl ⟨rfl, _, SqL.of hL⟩, _, rfl, _, rfl, _, ⟨t, _, _, rfl, rfl, SqT.of ht5, atI_nat (j := 0) rfl⟩, _, rfl, _, ⟨t, _, _, rfl, rfl, SqT.of ht5, atI_nat (j := 1) rfl⟩, p, _, _, b, m, rfl, hp5, NT.b1, b33, m2, NT.m2, fun q z H6 M6 h6 ok6 => ?_⟩
    have hL6 := M6.at hL hLp
    refine ⟨L, _, _, rfl, rfl, hL6, (Nat.lt_of_lt_of_le (show zs.length < 1000 by omega) (by decide)), ?_⟩
    have K6 := Mb.tupK hp5 M6
    have K7 : TupK H6 (upd H6 L (.lst (zs ++ [.ref q]))) := tupK_upd hL6
    refine ⟨_, ?_, zs ++ [.ref q], sp' ++ [z], rfl, rfl, upd_same, ?_, ⟨NT'.b1, NT'.b2, NT'.m1, NT'.m2, ?_, ?_⟩, ?_⟩
    · rw [List.length_append]; show 40 - (sp'.length + 1) < 40 - sp'.length; omega
    · unfold rowsD
      rw [List.map_append]
      exact (rows_keep (K6.trans K7) dz).append (.cons (.tup (K7 _ _ h6) (IsDs.ints z.row)) .nil)
    · rw [List.length_append]; show sp'.length + 1 ≤ 40; omega
    · intro z' hz'
      rcases List.mem_append.mp hz' with hz' | hz'
      · exact NT'.all z' hz'
      · rw [List.mem_singleton.mp hz']; exact ok6
    · obtain ⟨x6, y6, hp6⟩ := M6.2
      refine ⟨fun c o hc' e => ?_, x6, y6, ?_⟩
      · rw [upd_ne (ne_of_none e nL)]
        exact M6.1 c o hc' (M5.1 c o hc' e)
      · rw [upd_ne (fun z => hLp z.symm)]; exact hp6
  · refine ⟨_, rfl, _, ⟨t, _, _, rfl, rfl, SqT.of ht5, atI_nat (j := 0) rfl⟩, _, rfl, _, ⟨t, _, _, rfl, rfl, SqT.of ht5, atI_nat (j := 1) rfl⟩, _, rfl, L, _, rfl, SqL.of hL, fun q6 H6 S6 h6 => ?_⟩
    refine ⟨(by show 3 ≤ sizeLine; decide), fun t' H7 S7 h7 => ?_⟩
    exact k t' sp' H7 ((M5.then S6).then S7) (.tup h7 (.cons (.int b) (.cons (.int m) (.cons (.tup (S7 _ _ h6) (dz.same (S6.trans S7))) .nil)))) NT'
end
end HN

/-! k62: the law. -/
namespace HN
open PySem L2 PyProof.Rows
abbrev sLaw : Stmt := top 43
def spLaw (K : PySem.W.Frag) : Sp := fun vs H Q _ => ∃ (a : Addr) (ns : List Int), vs = [.ref a] ∧ SqL K H a (ns.map V.int) ∧ ns.length ≤ 63 ∧ ∀ H', Q (.bl true) H'
section
variable {P : Program} {w : World} {K : PySem.W.Frag} {mg : Str → Option Value} {base : Heap}
theorem scLaw : FnScope ["_law_script", "_law_k", "_law_box_here", "_law_net_here", "_law_way", "_law_some", "_law_thing"] ["_law_script"] (defScope sLaw) := ⟨rfl, rfl, rfl, by decide +kernel, rfl, by decide +kernel, by decide +kernel⟩
theorem ok_law {f f1 f2 f3 f4 f5 f6 f7 f8 : Addr} {fd fd1 fd2 fd3 fd4 fd5 fd6 fd7 fd8 : FuncData} (F : Fun K "law" "law" sLaw f fd) (T : Nm mg) (T2 : Nt mg)
    (G1 : Fn K mg "_law_box" sBox ["_law_script", "_law_k"] f1 fd1) (F1 : FnOk P w K mg base CX0 2 f1 fd1 ["_law_script", "_law_k"] (spBox K))
    (G2 : Fn K mg "_law_net" sNetB ["_law_box_here", "_law_most"] f2 fd2) (F2 : FnOk P w K mg base CX0 3 f2 fd2 ["_law_box_here", "_law_most"] spNetB)
    (G3 : Fn K mg "_law_draw" sDraw ["_law_box_here", "_law_most"] f3 fd3) (F3 : FnOk P w K mg base CX0 1 f3 fd3 ["_law_box_here", "_law_most"] spDraw)
    (G4 : Fn K mg "_law_filled" sFill ["_law_box_here", "_law_net_here"] f4 fd4) (F4 : FnOk P w K mg base CX0 3 f4 fd4 ["_law_box_here", "_law_net_here"] spFill)
    (G5 : Fn K mg "_law_walk" sWalk ["_law_box_here", "_law_net_here", "_law_most"] f5 fd5) (F5 : FnOk P w K mg base CX0 2 f5 fd5 ["_law_box_here", "_law_net_here", "_law_most"] spWalk)
    (G6 : Fn K mg "_law_bent" sBentS ["_law_box_here", "_law_net_here", "_law_way"] f6 fd6) (F6 : FnOk P w K mg base CX0 2 f6 fd6 ["_law_box_here", "_law_net_here", "_law_way"] spBent)
    (G7 : Fn K mg "_law_told" sTold ["_law_net_here", "_law_way"] f7 fd7) (F7 : FnOk P w K mg base CX0 6 f7 fd7 ["_law_net_here", "_law_way"] spDueS)
    (G8 : Fn K mg "_law_due" sDueS ["_law_net_here", "_law_way"] f8 fd8) (F8 : FnOk P w K mg base CX0 3 f8 fd8 ["_law_net_here", "_law_way"] spDueS) : FnOk P w K mg base CX0 7 f fd ["_law_script"] (spLaw K) := by
  refine F.ok scLaw (fun vs H Q E h => by obtain ⟨a, ns, rfl, _⟩ := h; rfl) (fun cdv A outer s H vs Q E hr h => ?_)
  obtain ⟨a, ns, rfl, ha, hn, k⟩ := h
  have hr1 : Room 1 _ := hr.mono (by decide)
  have hr2 : Room 2 _ := hr.mono (by decide)
  have hr3 : Room 3 _ := hr.mono (by decide)
  refine ⟨_, PSl.h (l_cons ⟨(ps_for PassesOwn.never rfl (pi_range1 rfl T2.range (pa_cons (pe_callB (call_max2 rfl) rfl T2.max boot_max (pa_cons pe_int (pa_cons (pe_callB (call_min2 rfl) rfl T.min boot_min (pa_cons (pe_callB (lenN K) rfl T.len PySem.boot_len (pa_cons (pv 0) pa_nil)) (pa_cons pe_int pa_nil))) pa_nil))) pa_nil)) (pg_name (i := 1) scLaw.nd rfl (Or.inl rfl)) (PSl.h (l_cons ⟨(ps_set (i := 2) scLaw.nd rfl (Or.inl rfl) (pc1 G1 F1 hr2 (pa_cons (pv 0) (pa_cons (pv 1) pa_nil))))⟩
    (l_cons ⟨(ps_set (i := 3) scLaw.nd rfl (Or.inl rfl) (pc1 G2 F2 hr3 (pa_cons (pv 2) (pa_cons pe_int pa_nil))))⟩
    (l_cons ⟨(ps_cutK (ps_if (pt_cmpR op_eq (pc1 G3 F3 hr1 (pa_cons (pv 2) (pa_cons pe_int pa_nil))) pe_int (nomark _)) (pss_one (ps_set (i := 3) scLaw.nd rfl (Or.inl rfl) (pc1 G4 F4 hr3 (pa_cons (pv 2) (pa_cons (pv 3) pa_nil))))) pss_nil))⟩
    (l_cons ⟨(ps_set (i := 4) scLaw.nd rfl (Or.inr rfl) (pc1 G5 F5 hr2 (pa_cons (pc1 G1 F1 hr2 (pa_cons (pv 0) (pa_cons (pe_op op_add (pv 1) pe_int) pa_nil))) (pa_cons (pv 3) (pa_cons pe_int pa_nil)))))⟩
    (l_cons ⟨(ps_set (i := 5) scLaw.nd rfl (Or.inl rfl) (pe_op op_catL (pe_comp (fr := ["_law_way"]) (js := [4]) rfl (pi_range2 rfl T2.range (pa_cons pe_int (pa_cons (pe_op op_add (pe_callB (lenN K) rfl T.len PySem.boot_len (pa_cons (pv 4) pa_nil)) pe_int) pa_nil))) (by decide +kernel) rfl (by decide +kernel) rfl (by show ∀ y : Str × NameKind, y ∈ _ → y.2 = NameKind.free → List.lookup y.1 (defScope sLaw).names = some NameKind.cell; decide +kernel) (by decide +kernel) rfl (by decide +kernel) (fun _ _ _ _ _ => ⟨(pe_slice sl_tupN (pv 1) po_none (po_some (pv 0))), pts_nil⟩)) (pe_lstA (pa_cons (pc1 G6 F6 hr2 (pa_cons (pv 2) (pa_cons (pv 3) (pa_cons (pv 4) pa_nil)))) pa_nil))))⟩
    (l_one ⟨(ps_for PassesOwn.never rfl (piNL K (pe_op op_catL (pv 5) (pe_lstA (pa_cons (pe_tupA pa_nil) (pa_cons pe_non (pa_cons pe_int (pa_cons pe_str (pa_cons (pe_lstA (pa_cons (pe_tupA (pa_cons pe_int (pa_cons pe_int pa_nil))) pa_nil)) (pa_cons pe_dnewA pa_nil))))))))) (pg_name (i := 6) scLaw.nd rfl (Or.inl rfl)) (pss_one (ps_if (pt_cmpR (op_neLD hr.units) (pc1 G7 F7 hr (pa_cons (pv 3) (pa_cons (pv 6) pa_nil))) (pc1 G8 F8 hr3 (pa_cons (pv 3) (pa_cons (pv 6) pa_nil))) (nomark _)) (pss_one (ps_ret pe_bl)) pss_nil)))⟩))))))))⟩
    (l_one ⟨(ps_ret pe_bl)⟩)), ?_⟩
  refine ⟨_, rfl, a, _, rfl, .inl ha, _, _, rfl, _, _, rfl, _, rfl, ?_, ?_, ?_⟩
  · rw [List.length_map]; split <;> split <;> omega
  · rw [List.length_map]; split <;> split <;> omega
  refine for_range (fun i σ H5 => Same H H5 ∧ ∃ v1 v2 v3 v4 v5 v6, σ = [some (.ref a), v1, v2, v3, v4, v5, v6]) ⟨Same.refl H, none, none, none, none, none, none, rfl⟩ ?_ ?_
  · rintro i σ H5 hi ⟨S5, v1, v2, v3, v4, v5, v6, rfl⟩
    clear hi
    refine ⟨_, rfl, _, rfl, a, ns, _, rfl, S5.seq ha, by omega, fun x6 y6 p hp6 => ?_⟩
    have P6 : Same H5 (upd H5 p (.lst [.int x6, .int y6])) := Same.put (Same.refl H5) hp6
    have P6' : (upd H5 p (.lst [.int x6, .int y6])) p = some (.lst [.int x6, .int y6]) := upd_same
    generalize upd H5 p (.lst [.int x6, .int y6]) = H6 at P6 P6' ⊢
    -- the net
    refine ⟨_, rfl, p, x6, y6, 40, rfl, P6', by decide, by decide, fun tn b m sp H7 M7 hv NT b33 m2 => ?_⟩
    have hp7 := M7.box
    -- filled, or not
    refine ⟨fun σ' H' => ∃ (tn : Addr) (sp : List Sn), σ' = [some (.ref a), some (.int ((0 : Int) + (i : Nat))), some (.ref p), some (.ref tn), v4, v5, v6] ∧ Mb p H6 H' ∧ IsD H' (.ref tn) (netP b m sp) ∧ NetT b m sp, ?_, ?_⟩
    rotate_left
    · refine ⟨_, rfl, p, _, _, 4, rfl, hp7, by decide, by decide, fun r8 H8 _ _ M8 => ⟨rfl, _, rfl, ?_⟩⟩
      obtain ⟨x8, y8, hp8⟩ := M8.2
      have hv8 := netP_mb hv hp7 M8
      refine ite2 (fun _ => ?_) (fun _ => ⟨tn, sp, rfl, M7.trans M8, hv8, NT⟩)
      exact ⟨_, rfl, _, rfl, p, x8, y8, tn, b, m, sp, rfl, hp8, hv8, NT, b33, m2, fun tn' sp' H9 M9 hv9 NT9 => ⟨tn', sp', rfl, (M7.trans M8).trans M9, hv9, NT9⟩⟩
    clear hp7 hv NT M7
    rintro σ' H8 ⟨tn, sp, rfl, M8, hv, NT⟩
    obtain ⟨x8, y8, hp8⟩ := M8.2
    have S8 : Same H5 H8 := Same.mb P6 hp6 M8
    clear M8 P6 P6'
    have few := NT.few
    -- the walk
    refine ⟨_, rfl, _, rfl, a, ns, _, rfl, (S5.trans S8).seq ha, by omega, fun x9 y9 p9 hp9 => ?_⟩
    have P9 : Same H8 (upd H8 p9 (.lst [.int x9, .int y9])) := Same.put (Same.refl H8) hp9
    have P9' : (upd H8 p9 (.lst [.int x9, .int y9])) p9 = some (.lst [.int x9, .int y9]) := upd_same
    generalize upd H8 p9 (.lst [.int x9, .int y9]) = H9 at P9 P9' ⊢
    have hv9 := hv.same P9
    refine ⟨_, rfl, p9, x9, y9, .ref tn, b, m, sp, 8, rfl, P9', hv9, NT, by decide, by decide, fun H' M => netP_mb hv9 P9' M, fun uw ws HA MA huw hin hlw => ?_⟩
    have SA : Same H8 HA := Same.mb P9 hp9 MA
    clear MA P9 P9'
    obtain ⟨pw, yw, rfl, hpw, hlyw, rw'⟩ := rows_of huw
    have lyw : yw.length ≤ 12 := by omega
    have fW := fine_rows hin
    -- its beginnings
    refine ⟨_, rfl, pw, _, rfl, .inr (SqT.of hpw), _, _, rfl, ⟨by decide, by decide, by omega, by omega⟩, ?_⟩
    refine comp_range (lo := 1) (n := ((yw.length : Int) + 1 - 1).toNat) (fun i zs H9 => Same HA H9 ∧ zs.length = i ∧ ∀ v ∈ zs, Thg H9 v) ⟨Same.refl HA, rfl, fun _ h => absurd h (by simp)⟩ (fun i zs H9 _ ⟨_, e, _⟩ => by rw [e]; exact Nat.le_refl _) (small_le (by omega)) (fun i zs H9 hi9 ⟨e1, e2, e3⟩ => ?_) (fun zs HB ⟨e1, e2, e3⟩ D hD => ?_)
    · refine tNoIf_go ?_
      refine ⟨_, rfl, _, rfl, _, rfl, pw, _, rfl, e1 _ _ hpw, fun u HA SA hA => ⟨e1.trans SA, by rw [List.length_append, e2]; rfl, fun v hv' => ?_⟩⟩
      rcases List.mem_append.mp hv' with hv' | hv'
      · exact (e3 v hv').same SA
      · rw [List.mem_singleton.mp hv']
        have rr : IsDs HA yw (rowsD Stp.row ws) := rw'.same (e1.trans SA)
        refine ⟨_, .tup hA ((rr.drop _).take _), fine_of (fW.cut _ _) ?_⟩
        rw [List.length_take, List.length_drop, List.length_map]; omega
    have SC : Same HA (upd HB D (.lst zs)) := e1.put hD
    have hDC : (upd HB D (.lst zs)) D = some (.lst zs) := upd_same
    have hDA : HA D = none := e1.free hD
    have e3 : ∀ v ∈ zs, Thg (upd HB D (.lst zs)) v := fun v hv' => (e3 v hv').same (Same.put (Same.refl HB) hD)
    have lzs : zs.length ≤ 20 := by omega
    generalize upd HB D (.lst zs) = HC at SC hDC e3 ⊢
    have S8C := SA.trans SC
    have hpC := S8C _ _ hp8
    have hDp : D ≠ p := fun z => by rw [z, SA _ _ hp8] at hDA; cases hDA
    -- a bent one
    refine ⟨_, rfl, _, rfl, _, rfl, p, x8, y8, .ref tn, pw, b, m, sp, ws, rfl, hpC, hv.same S8C, few, huw.same SC, hin, by omega, fun u d HD MD hu fine => ?_⟩
    have hDD := MD.at hDC hDp
    have hvD : IsD HD (.ref tn) (netP b m sp) := netP_mb (hv.same S8C) hpC MD
    have thD : ∀ v ∈ zs, Thg HD v := fun v hv' => by
      obtain ⟨d', h1, h2⟩ := e3 v hv'
      exact ⟨d', isd_mb hpC h1 MD, h2⟩
    have S5D : Same H5 HD := Same.mb (S8.trans S8C) hp6 MD
    clear MD
    refine ⟨(by show 1 ≤ sizeLine; decide), fun L1 HE SE hE1 => ⟨D, L1, _, _, rfl, rfl, SE _ _ hDD, hE1, small_le (by show zs.length + 1 ≤ 1000; omega), fun LS HF SF hF => ?_⟩⟩
    -- other things
    refine ⟨_, rfl, Nat.zero_le _, fun q1 J1 U1 g1 => ⟨(by show 2 ≤ sizeLine; decide), fun q2 J2 U2 g2 => ⟨(by show 1 ≤ sizeLine; decide), fun q3 J3 U3 g3 => fun q4 J4 U4 g4 => ⟨(by show 6 ≤ sizeLine; decide), fun LQ JQ UQ gQ => ?_⟩⟩⟩⟩
    have w4 := UQ
    have w3 := U4.trans w4
    have w2 := U3.trans w3
    have w1 := U2.trans w2
    have SFQ : Same HF JQ := U1.trans w1
    refine ⟨LS, LQ, _, _, rfl, rfl, SFQ _ _ hF, gQ, small_le (by rw [List.length_append]; show zs.length + 1 + 6 ≤ 1000; omega), fun LF JF UF gF => ⟨LF, rfl, ⟨_, SqL.of gF⟩, ?_⟩⟩
    have SDF : Same HD JF := SE.trans (SF.trans (SFQ.trans UF))
    have hall : ∀ v ∈ zs ++ [u] ++ ([.ref q1, .non, .int 5, .str "", .ref q3, .ref q4] : List V), Thg JF v := by
      intro v hv'
      rcases List.mem_append.mp hv' with hv' | hv'
      · rcases List.mem_append.mp hv' with hv' | hv'
        · exact (thD v hv').same SDF
        · rw [List.mem_singleton.mp hv']
          exact ⟨d, hu.same SDF, fine⟩
      · simp only [List.mem_cons, List.not_mem_nil, or_false] at hv'
        rcases hv' with rfl | rfl | rfl | rfl | rfl | rfl
        · exact ⟨_, .tup (UF _ _ (w1 _ _ g1)) .nil, fine_of (fun e he => absurd he (by simp)) (Nat.zero_le _)⟩
        · exact ⟨_, .non, fine_no fun ds e => by cases e⟩
        · exact ⟨_, .int _, fine_no fun ds e => by cases e⟩
        · exact ⟨_, .str _, fine_no fun ds e => by cases e⟩
        · exact ⟨_, .lst (UF _ _ (w3 _ _ g3)), fine_no fun ds e => by cases e⟩
        · exact ⟨_, .dct (UF _ _ (w4 _ _ g4)), fine_no fun ds e => by cases e⟩
    have hvF := hvD.same SDF
    refine for_list (K := K) (a := LF) (xs := zs ++ [u] ++ [.ref q1, .non, .int 5, .str "", .ref q3, .ref q4]) (fun j σ HG => Same JF HG ∧ ∃ v1 v2 v4 v5 v6, σ = [some (.ref a), v1, v2, some (.ref tn), v4, v5, v6]) ⟨Same.refl JF, _, _, _, _, _, rfl⟩ (fun j σ HG _ ⟨SG, _⟩ => SqL.of (SG _ _ gF)) ?_ ?_
    · rintro j v σ HG hx ⟨SG, v1, v2, v4, v5, v6, rfl⟩
      obtain ⟨d', hd', fine'⟩ := (hall v (List.mem_of_getElem? hx)).same SG
      refine ⟨_, rfl, _, rfl, .ref tn, v, b, m, sp, d', rfl, hvF.same SG, hd', fine', NT, fun L1 z1 HI SI h1 r1 => ?_⟩
      refine ⟨_, rfl, _, rfl, .ref tn, v, b, m, sp, d', rfl, (hvF.same SG).same SI, hd'.same SI, fine', NT, fun L2 z2 HJ SJ h2 r2 => ?_⟩
      refine ⟨L1, L2, z1, z2, dueD b m sp d', dueD b m sp d', ⟨rfl, rfl⟩, ⟨SJ _ _ h1, h2⟩, r1.same SJ, r2, rfl, dueD_pls _ _ _ _, dueD_pls _ _ _ _, dueD_deps _ _ _ _, ?_⟩
      rw [eqDs_refl _ (dueD_pls _ _ _ _)]
      exact ⟨_, rfl, iteF ⟨SG.trans (SI.trans SJ), _, _, _, _, _, rfl⟩⟩
    · rintro σ HG ⟨SG, v1, v2, v4, v5, v6, rfl⟩
      exact ⟨S5.trans (S5D.trans (SDF.trans SG)), _, _, _, _, _, _, rfl⟩
  · rintro σ H5 ⟨S5, v1, v2, v3, v4, v5, v6, rfl⟩
    exact k H5
end
end HN

/-! What the top has written, and the law's own head. -/
namespace HN
open PySem L2 PyProof.Rows
theorem args1 {P : List Value → Prop} (h : ∀ x0, P [x0]) : ∀ us : List Value, us.length = 1 → P us := by
  intro us hl
  obtain _ | ⟨x0, us⟩ := us <;> try (cases hl; done)
  obtain _ | ⟨y, us⟩ := us
  · exact h x0
  · exact absurd hl (by simp only [List.length_cons]; omega)
theorem args2 {P : List Value → Prop} (h : ∀ x0 x1, P [x0, x1]) : ∀ us : List Value, us.length = 2 → P us := by
  intro us hl
  obtain _ | ⟨x0, us⟩ := us <;> try (cases hl; done)
  obtain _ | ⟨x1, us⟩ := us <;> try (cases hl; done)
  obtain _ | ⟨y, us⟩ := us
  · exact h x0 x1
  · exact absurd hl (by simp only [List.length_cons]; omega)
theorem args3 {P : List Value → Prop} (h : ∀ x0 x1 x2, P [x0, x1, x2]) : ∀ us : List Value, us.length = 3 → P us := by
  intro us hl
  obtain _ | ⟨x0, us⟩ := us <;> try (cases hl; done)
  obtain _ | ⟨x1, us⟩ := us <;> try (cases hl; done)
  obtain _ | ⟨x2, us⟩ := us <;> try (cases hl; done)
  obtain _ | ⟨y, us⟩ := us
  · exact h x0 x1 x2
  · exact absurd hl (by simp only [List.length_cons]; omega)
theorem all_mk {l : PySem.W.OpenLaw} {w : World} {K : PySem.W.Frag} {h : Heap} {mg : Str → Option Value} {fa f1 f2 f3 f4 f5 f6 f7 f8 f9 f10 f11 f12 f13 f14 f15 f16 f17 f18 f19 f20 f21 f22 f23 f24 f25 f26 f27 f28 : Addr} (X : K.In h) (G : h.Ns mainGlobals mg) (hfa : mg "law" = some (.ref fa))
    {od1 an1 od2 an2 od3 an3 od4 an4 od5 an5 od6 an6 od7 an7 od8 an8 od9 an9 od10 an10 od11 an11 od12 an12 od13 an13 od14 an14 od15 an15 od16 an16 od17 an17 od18 an18 od19 an19 od20 an20 od21 an21 od22 an22 od23 an23 od24 an24 od25 an25 od26 an26 od27 an27 od28 an28 : Option Addr} {sl1 sl2 sl3 sl4 sl5 sl6 sl7 sl8 sl9 sl10 sl11 sl12 sl13 sl14 sl15 sl16 sl17 sl18 sl19 sl20 sl21 sl22 sl23 sl24 sl25 sl26 sl27 sl28 : Array (Option Value)} {oc1 kV1 dc1 pm1 cd1 ct1 oc2 kV2 dc2 pm2 cd2 ct2 oc3 kV3 dc3 pm3 cd3 ct3 oc4 kV4 dc4 pm4 cd4 ct4 oc5 kV5 dc5 pm5 cd5 ct5 oc6 kV6 dc6 pm6 cd6 ct6 oc7 kV7 dc7 pm7 cd7 ct7 oc8 kV8 dc8 pm8 cd8 ct8 oc9 kV9 dc9 pm9 cd9 ct9 oc10 kV10 dc10 pm10 cd10 ct10 oc11 kV11 dc11 pm11 cd11 ct11 oc12 kV12 dc12 pm12 cd12 ct12 oc13 kV13 dc13 pm13 cd13 ct13 oc14 kV14 dc14 pm14 cd14 ct14 oc15 kV15 dc15 pm15 cd15 ct15 oc16 kV16 dc16 pm16 cd16 ct16 oc17 kV17 dc17 pm17 cd17 ct17 oc18 kV18 dc18 pm18 cd18 ct18 oc19 kV19 dc19 pm19 cd19 ct19 oc20 kV20 dc20 pm20 cd20 ct20 oc21 kV21 dc21 pm21 cd21 ct21 oc22 kV22 dc22 pm22 cd22 ct22 oc23 kV23 dc23 pm23 cd23 ct23 oc24 kV24 dc24 pm24 cd24 ct24 oc25 kV25 dc25 pm25 cd25 ct25 oc26 kV26 dc26 pm26 cd26 ct26 oc27 kV27 dc27 pm27 cd27 ct27 oc28 kV28 dc28 pm28 cd28 ct28 : Value} {t1 : Tok} {x1 x2 x3 : Addr} {xc xi rN : Addr} {rnm rq : Str} {rbs rsub : List Value} {rsn : List Str} {rab : Bool} {rcol : Option Bool} {rdd odI anI : Option Addr} {rk0 rk1 rk2 rk3 rk5 : Option Value} {slI : Array (Option Value)} {ocI kVI dcI pmI cdI ctI : Value} {xa xb xd xe : Addr}
    (a1 : PySem.W.nsIn K mainGlobals "is_whole" = some (some (.ref f1))) (l1 : K.lookup f1 = some ⟨oc1, od1, .func (PySem.W.fnOf "is_whole" "is_whole" (defArgs sWhole) (defBody sWhole) (defScope sWhole) .none kV1 dc1 pm1 an1 cd1 ct1), sl1⟩) (c1 : PySem.W.codeIn K cd1 "is_whole" = true) (k1 : PySem.W.keepIn K (.ref f1) = true)
    (a2 : PySem.W.nsIn K mainGlobals "is_within" = some (some (.ref f2))) (l2 : K.lookup f2 = some ⟨oc2, od2, .func (PySem.W.fnOf "is_within" "is_within" (defArgs sWithin) (defBody sWithin) (defScope sWithin) .none kV2 dc2 pm2 an2 cd2 ct2), sl2⟩) (c2 : PySem.W.codeIn K cd2 "is_within" = true) (k2 : PySem.W.keepIn K (.ref f2) = true)
    (a3 : PySem.W.nsIn K mainGlobals "rest_by" = some (some (.ref f3))) (l3 : K.lookup f3 = some ⟨oc3, od3, .func (PySem.W.fnOf "rest_by" "rest_by" (defArgs sRest) (defBody sRest) (defScope sRest) .none kV3 dc3 pm3 an3 cd3 ct3), sl3⟩) (c3 : PySem.W.codeIn K cd3 "rest_by" = true) (k3 : PySem.W.keepIn K (.ref f3) = true)
    (a4 : PySem.W.nsIn K mainGlobals "with_spans" = some (some (.ref f4))) (l4 : K.lookup f4 = some ⟨oc4, od4, .func (PySem.W.fnOf "with_spans" "with_spans" (defArgs sWithSp) (defBody sWithSp) (defScope sWithSp) .none kV4 dc4 pm4 an4 cd4 ct4), sl4⟩) (c4 : PySem.W.codeIn K cd4 "with_spans" = true) (k4 : PySem.W.keepIn K (.ref f4) = true)
    (a5 : PySem.W.nsIn K mainGlobals "is_step" = some (some (.ref f5))) (l5 : K.lookup f5 = some ⟨oc5, od5, .func (PySem.W.fnOf "is_step" "is_step" (defArgs sStep) (defBody sStep) (defScope sStep) .none kV5 dc5 pm5 an5 cd5 ct5), sl5⟩) (c5 : PySem.W.codeIn K cd5 "is_step" = true) (k5 : PySem.W.keepIn K (.ref f5) = true)
    (a6 : PySem.W.nsIn K mainGlobals "leads_from" = some (some (.ref f6))) (l6 : K.lookup f6 = some ⟨oc6, od6, .func (PySem.W.fnOf "leads_from" "leads_from" (defArgs sFrom) (defBody sFrom) (defScope sFrom) .none kV6 dc6 pm6 an6 cd6 ct6), sl6⟩) (c6 : PySem.W.codeIn K cd6 "leads_from" = true) (k6 : PySem.W.keepIn K (.ref f6) = true)
    (a7 : PySem.W.nsIn K mainGlobals "leads_to" = some (some (.ref f7))) (l7 : K.lookup f7 = some ⟨oc7, od7, .func (PySem.W.fnOf "leads_to" "leads_to" (defArgs sTo) (defBody sTo) (defScope sTo) .none kV7 dc7 pm7 an7 cd7 ct7), sl7⟩) (c7 : PySem.W.codeIn K cd7 "leads_to" = true) (k7 : PySem.W.keepIn K (.ref f7) = true)
    (a8 : PySem.W.nsIn K mainGlobals "is_way" = some (some (.ref f8))) (l8 : K.lookup f8 = some ⟨oc8, od8, .func (PySem.W.fnOf "is_way" "is_way" (defArgs sWay) (defBody sWay) (defScope sWay) .none kV8 dc8 pm8 an8 cd8 ct8), sl8⟩) (c8 : PySem.W.codeIn K cd8 "is_way" = true) (k8 : PySem.W.keepIn K (.ref f8) = true)
    (a9 : PySem.W.nsIn K mainGlobals "ends_of" = some (some (.ref f9))) (l9 : K.lookup f9 = some ⟨oc9, od9, .func (PySem.W.fnOf "ends_of" "ends_of" (defArgs sEndsO) (defBody sEndsO) (defScope sEndsO) .none kV9 dc9 pm9 an9 cd9 ct9), sl9⟩) (c9 : PySem.W.codeIn K cd9 "ends_of" = true) (k9 : PySem.W.keepIn K (.ref f9) = true)
    (a10 : PySem.W.nsIn K mainGlobals "first_bounds" = some (some (.ref f10))) (l10 : K.lookup f10 = some ⟨oc10, od10, .func (PySem.W.fnOf "first_bounds" "first_bounds" (defArgs sFirst) (defBody sFirst) (defScope sFirst) .none kV10 dc10 pm10 an10 cd10 ct10), sl10⟩) (c10 : PySem.W.codeIn K cd10 "first_bounds" = true) (k10 : PySem.W.keepIn K (.ref f10) = true)
    (a11 : PySem.W.nsIn K mainGlobals "sum_of" = some (some (.ref f11))) (l11 : K.lookup f11 = some ⟨oc11, od11, .func (PySem.W.fnOf "sum_of" "sum_of" (defArgs sSum) (defBody sSum) (defScope sSum) .none kV11 dc11 pm11 an11 cd11 ct11), sl11⟩) (c11 : PySem.W.codeIn K cd11 "sum_of" = true) (k11 : PySem.W.keepIn K (.ref f11) = true)
    (a12 : PySem.W.nsIn K mainGlobals "span_over" = some (some (.ref f12))) (l12 : K.lookup f12 = some ⟨oc12, od12, .func (PySem.W.fnOf "span_over" "span_over" (defArgs sOver) (defBody sOver) (defScope sOver) .none kV12 dc12 pm12 an12 cd12 ct12), sl12⟩) (c12 : PySem.W.codeIn K cd12 "span_over" = true) (k12 : PySem.W.keepIn K (.ref f12) = true)
    (a13 : PySem.W.nsIn K mainGlobals "summed" = some (some (.ref f13))) (l13 : K.lookup f13 = some ⟨oc13, od13, .func (PySem.W.fnOf "summed" "summed" (defArgs sSummed) (defBody sSummed) (defScope sSummed) .none kV13 dc13 pm13 an13 cd13 ct13), sl13⟩) (c13 : PySem.W.codeIn K cd13 "summed" = true) (k13 : PySem.W.keepIn K (.ref f13) = true)
    (a14 : PySem.W.nsIn K mainGlobals "_law_cell_at" = some (some (.ref f14))) (l14 : K.lookup f14 = some ⟨oc14, od14, .func (PySem.W.fnOf "_law_cell_at" "_law_cell_at" (defArgs sCell) (defBody sCell) (defScope sCell) .none kV14 dc14 pm14 an14 cd14 ct14), sl14⟩) (c14 : PySem.W.codeIn K cd14 "_law_cell_at" = true) (k14 : PySem.W.keepIn K (.ref f14) = true)
    (a15 : PySem.W.nsIn K mainGlobals "_law_box" = some (some (.ref f15))) (l15 : K.lookup f15 = some ⟨oc15, od15, .func (PySem.W.fnOf "_law_box" "_law_box" (defArgs sBox) (defBody sBox) (defScope sBox) .none kV15 dc15 pm15 an15 cd15 ct15), sl15⟩) (c15 : PySem.W.codeIn K cd15 "_law_box" = true) (k15 : PySem.W.keepIn K (.ref f15) = true)
    (a16 : PySem.W.nsIn K mainGlobals "_law_draw" = some (some (.ref f16))) (l16 : K.lookup f16 = some ⟨oc16, od16, .func (PySem.W.fnOf "_law_draw" "_law_draw" (defArgs sDraw) (defBody sDraw) (defScope sDraw) .none kV16 dc16 pm16 an16 cd16 ct16), sl16⟩) (c16 : PySem.W.codeIn K cd16 "_law_draw" = true) (k16 : PySem.W.keepIn K (.ref f16) = true)
    (a17 : PySem.W.nsIn K mainGlobals "_law_beat" = some (some (.ref f17))) (l17 : K.lookup f17 = some ⟨oc17, od17, .func (PySem.W.fnOf "_law_beat" "_law_beat" (defArgs sBeat) (defBody sBeat) (defScope sBeat) .none kV17 dc17 pm17 an17 cd17 ct17), sl17⟩) (c17 : PySem.W.codeIn K cd17 "_law_beat" = true) (k17 : PySem.W.keepIn K (.ref f17) = true)
    (a18 : PySem.W.nsIn K mainGlobals "_law_span" = some (some (.ref f18))) (l18 : K.lookup f18 = some ⟨oc18, od18, .func (PySem.W.fnOf "_law_span" "_law_span" (defArgs sSpanB) (defBody sSpanB) (defScope sSpanB) .none kV18 dc18 pm18 an18 cd18 ct18), sl18⟩) (c18 : PySem.W.codeIn K cd18 "_law_span" = true) (k18 : PySem.W.keepIn K (.ref f18) = true)
    (a19 : PySem.W.nsIn K mainGlobals "_law_net" = some (some (.ref f19))) (l19 : K.lookup f19 = some ⟨oc19, od19, .func (PySem.W.fnOf "_law_net" "_law_net" (defArgs sNetB) (defBody sNetB) (defScope sNetB) .none kV19 dc19 pm19 an19 cd19 ct19), sl19⟩) (c19 : PySem.W.codeIn K cd19 "_law_net" = true) (k19 : PySem.W.keepIn K (.ref f19) = true)
    (a20 : PySem.W.nsIn K mainGlobals "_law_leads" = some (some (.ref f20))) (l20 : K.lookup f20 = some ⟨oc20, od20, .func (PySem.W.fnOf "_law_leads" "_law_leads" (defArgs sLeads) (defBody sLeads) (defScope sLeads) .none kV20 dc20 pm20 an20 cd20 ct20), sl20⟩) (c20 : PySem.W.codeIn K cd20 "_law_leads" = true) (k20 : PySem.W.keepIn K (.ref f20) = true)
    (a21 : PySem.W.nsIn K mainGlobals "_law_walk" = some (some (.ref f21))) (l21 : K.lookup f21 = some ⟨oc21, od21, .func (PySem.W.fnOf "_law_walk" "_law_walk" (defArgs sWalk) (defBody sWalk) (defScope sWalk) .none kV21 dc21 pm21 an21 cd21 ct21), sl21⟩) (c21 : PySem.W.codeIn K cd21 "_law_walk" = true) (k21 : PySem.W.keepIn K (.ref f21) = true)
    (a22 : PySem.W.nsIn K mainGlobals "_law_whole" = some (some (.ref f22))) (l22 : K.lookup f22 = some ⟨oc22, od22, .func (PySem.W.fnOf "_law_whole" "_law_whole" (defArgs sWholeL) (defBody sWholeL) (defScope sWholeL) .none kV22 dc22 pm22 an22 cd22 ct22), sl22⟩) (c22 : PySem.W.codeIn K cd22 "_law_whole" = true) (k22 : PySem.W.keepIn K (.ref f22) = true)
    (a23 : PySem.W.nsIn K mainGlobals "_law_is_way" = some (some (.ref f23))) (l23 : K.lookup f23 = some ⟨oc23, od23, .func (PySem.W.fnOf "_law_is_way" "_law_is_way" (defArgs sIsWay) (defBody sIsWay) (defScope sIsWay) .none kV23 dc23 pm23 an23 cd23 ct23), sl23⟩) (c23 : PySem.W.codeIn K cd23 "_law_is_way" = true) (k23 : PySem.W.keepIn K (.ref f23) = true)
    (a24 : PySem.W.nsIn K mainGlobals "_law_due" = some (some (.ref f24))) (l24 : K.lookup f24 = some ⟨oc24, od24, .func (PySem.W.fnOf "_law_due" "_law_due" (defArgs sDueS) (defBody sDueS) (defScope sDueS) .none kV24 dc24 pm24 an24 cd24 ct24), sl24⟩) (c24 : PySem.W.codeIn K cd24 "_law_due" = true) (k24 : PySem.W.keepIn K (.ref f24) = true)
    (a25 : PySem.W.nsIn K mainGlobals "_law_told" = some (some (.ref f25))) (l25 : K.lookup f25 = some ⟨oc25, od25, .func (PySem.W.fnOf "_law_told" "_law_told" (defArgs sTold) (defBody sTold) (defScope sTold) .none kV25 dc25 pm25 an25 cd25 ct25), sl25⟩) (c25 : PySem.W.codeIn K cd25 "_law_told" = true) (k25 : PySem.W.keepIn K (.ref f25) = true)
    (a26 : PySem.W.nsIn K mainGlobals "_law_bent" = some (some (.ref f26))) (l26 : K.lookup f26 = some ⟨oc26, od26, .func (PySem.W.fnOf "_law_bent" "_law_bent" (defArgs sBentS) (defBody sBentS) (defScope sBentS) .none kV26 dc26 pm26 an26 cd26 ct26), sl26⟩) (c26 : PySem.W.codeIn K cd26 "_law_bent" = true) (k26 : PySem.W.keepIn K (.ref f26) = true)
    (a27 : PySem.W.nsIn K mainGlobals "_law_filled" = some (some (.ref f27))) (l27 : K.lookup f27 = some ⟨oc27, od27, .func (PySem.W.fnOf "_law_filled" "_law_filled" (defArgs sFill) (defBody sFill) (defScope sFill) .none kV27 dc27 pm27 an27 cd27 ct27), sl27⟩) (c27 : PySem.W.codeIn K cd27 "_law_filled" = true) (k27 : PySem.W.keepIn K (.ref f27) = true)
    (a28 : PySem.W.nsIn K mainGlobals "law" = some (some (.ref f28))) (l28 : K.lookup f28 = some ⟨oc28, od28, .func (PySem.W.fnOf "law" "law" (defArgs sLaw) (defBody sLaw) (defScope sLaw) .none kV28 dc28 pm28 an28 cd28 ct28), sl28⟩) (c28 : PySem.W.codeIn K cd28 "law" = true) (k28 : PySem.W.keepIn K (.ref f28) = true)
    (y1 : PySem.W.nsIn K mainGlobals "MOST_SPANS" = some (some (.int 40 t1)))
    (z1 : PySem.W.nsIn K mainGlobals "isinstance" = some none)
    (z2 : PySem.W.nsIn K mainGlobals "int" = some none)
    (z3 : PySem.W.nsIn K mainGlobals "bool" = some none)
    (z4 : PySem.W.nsIn K mainGlobals "tuple" = some none)
    (z5 : PySem.W.nsIn K mainGlobals "len" = some none)
    (z6 : PySem.W.nsIn K mainGlobals "min" = some none)
    (z7 : PySem.W.nsIn K mainGlobals "all" = some none)
    (z8 : PySem.W.nsIn K mainGlobals "range" = some none)
    (z9 : PySem.W.nsIn K mainGlobals "enumerate" = some none)
    (z10 : PySem.W.nsIn K mainGlobals "zip" = some none)
    (z11 : PySem.W.nsIn K mainGlobals "sum" = some none)
    (z12 : PySem.W.nsIn K mainGlobals "list" = some none)
    (z13 : PySem.W.nsIn K mainGlobals "max" = some none)
    (q1 : PySem.W.nsIn K mainGlobals "HourError" = some (some (.ref x1))) (r1 : PySem.W.excIn K x1 [.type "ValueError", .type "Exception", .type "BaseException", .type "object"] "ValueError.__new__" = true)
    (q2 : PySem.W.nsIn K mainGlobals "NoWay" = some (some (.ref x2))) (r2 : PySem.W.excIn K x2 [.type "ValueError", .type "Exception", .type "BaseException", .type "object"] "ValueError.__new__" = true)
    (q3 : PySem.W.nsIn K mainGlobals "TooWide" = some (some (.ref x3))) (r3 : PySem.W.excIn K x3 [.type "ValueError", .type "Exception", .type "BaseException", .type "object"] "ValueError.__new__" = true)
    (w1 : PySem.W.nsIn K mainGlobals "TooGreat" = some (some (.ref xc)))
    (w2 : PySem.W.findIn K (.ref xc) "__init__" = some (some (.ref xi)))
    (w3 : K.lookup xc = some (PySem.excClassObj rnm rq xc rN rbs (.ref x1 :: bmVE) true rsn rsub rab rcol rdd rk0 rk1 rk2 rk3 rk5 "ValueError.__new__"))
    (w4 : PySem.W.isFn K (.ref xi) = true)
    (w5 : PySem.W.keepIn K (.ref xc) = true)
    (w6 : PySem.W.findIn K (.ref xc) "__setattr__" = some (some (.builtin "object.__setattr__")))
    (w7 : K.lookup xi = some ⟨ocI, odI, .func (PySem.W.fnOf "__init__" "TooGreat.__init__" (defArgs sInitTG) (defBody sInitTG) (defScope sInitTG) .none kVI dcI pmI anI cdI ctI), slI⟩)
    (w8 : PySem.W.codeIn K cdI "TooGreat.__init__" = true)
    (w9 : PySem.W.keepIn K (.ref xi) = true)
    (w10 : PySem.W.specialIn K (.ref x1) "__getattribute__" = some (some (.builtin "type.__getattribute__")))
    (w11 : PySem.W.readsIn K x1 (.type "type") = true)
    (w12 : PySem.W.findCls K (.ref x1) (.type "type") "__init__" = some (.val (.builtin "ValueError.__init__")))
    (w13 : PySem.W.findIn K (.ref xc) "__getattribute__" = some (some (.builtin "BaseException.__getattribute__")))
    (w14 : PySem.W.findIn K (.ref xc) "__getattr__" = some none)
    (w15 : PySem.W.findIn K (.ref xc) "__class__" = some (some (.builtin "object.__class__")))
    (w16 : PySem.W.specialIn K (.builtin "object.__class__") "__get__" = some (some (.builtin "getset_descriptor.__get__")))
    (w17 : PySem.W.takesIn K (.builtin "object.__class__") = some true)
    (w18 : PySem.W.mroIn K xc (.type "object") = some true)
    (w19 : PySem.W.mroIn K xc (.type "BaseException") = some true)
    (w20 : PySem.W.hasDictIn K xc = true)
    (w21 : PySem.W.findIn K (.ref xc) "many" = some none)
    (w22 : PySem.W.findIn K (.ref xc) "most" = some none)
    (w23 : PySem.W.mroIn K xc (.ref x1) = some true)
    (w24 : PySem.W.findIn K (.ref x2) "__getattribute__" = some (some (.builtin "BaseException.__getattribute__")))
    (w25 : PySem.W.findIn K (.ref x2) "__getattr__" = some none)
    (w26 : PySem.W.findIn K (.ref x2) "__class__" = some (some (.builtin "object.__class__")))
    (w27 : PySem.W.mroIn K x2 (.type "object") = some true)
    (w28 : PySem.W.mroIn K x2 (.type "BaseException") = some true)
    (w29 : PySem.W.hasDictIn K x2 = true)
    (w30 : PySem.W.mroIn K x2 (.ref x1) = some true)
    (w31 : PySem.W.findIn K (.ref x3) "__getattribute__" = some (some (.builtin "BaseException.__getattribute__")))
    (w32 : PySem.W.findIn K (.ref x3) "__getattr__" = some none)
    (w33 : PySem.W.findIn K (.ref x3) "__class__" = some (some (.builtin "object.__class__")))
    (w34 : PySem.W.mroIn K x3 (.type "object") = some true)
    (w35 : PySem.W.mroIn K x3 (.type "BaseException") = some true)
    (w36 : PySem.W.hasDictIn K x3 = true)
    (w37 : PySem.W.mroIn K x3 (.ref x1) = some true)
    (w38 : PySem.W.nsIn K mainGlobals "NoOrder" = some (some (.ref xa)))
    (w39 : PySem.W.nsIn K mainGlobals "NoPlan" = some (some (.ref xb)))
    (w40 : PySem.W.nsIn K mainGlobals "NoText" = some (some (.ref xd)))
    (w41 : PySem.W.nsIn K mainGlobals "OtherBeats" = some (some (.ref xe)))
    (w42 : PySem.W.kitOne K (.ref x2) (.ref x3) = some false)
    (w43 : PySem.W.kitOne K (.ref x2) (.ref xc) = some false)
    (w44 : PySem.W.kitOne K (.ref x3) (.ref x2) = some false)
    (w45 : PySem.W.kitOne K (.ref x3) (.ref xc) = some false)
    (w46 : PySem.W.kitOne K (.ref xc) (.ref x2) = some false)
    (w47 : PySem.W.kitOne K (.ref xc) (.ref x3) = some false)
    (w48 : PySem.W.kitAny K (.ref x2) [.ref xa, .ref xb, .ref xd, .ref xe] = some false)
    (w49 : PySem.W.kitAny K (.ref x3) [.ref xa, .ref xb, .ref xd, .ref xe] = some false)
    (w50 : PySem.W.kitAny K (.ref xc) [.ref xa, .ref xb, .ref xd, .ref xe] = some false)
    : ∃ fd : FuncData, (∀ (s : Shared) (v : Value), BindsTo s fd ⟨[v], []⟩ [("_law_script", v)]) ∧ ∀ base : Heap, K.In base → base.Ns mainGlobals mg → FnOk l.prog w K mg base CX0 7 fa fd ["_law_script"] (spLaw K) := by
  have e := hfa.symm.trans (PySem.W.mg_of X G a28)
  cases e
  have F1 := fun_mk (st := sWhole) l1 c1 k1
  have b1 := F1.binds (ps := ["thing"]) fun _ _ _ _ _ _ => args1 fun _ => rfl
  have G1 : Fn K mg "is_whole" sWhole ["thing"] f1 _ := ⟨F1, PySem.W.mg_of X G a1, b1⟩
  have F2 := fun_mk (st := sWithin) l2 c2 k2
  have b2 := F2.binds (ps := ["thing", "low", "high"]) fun _ _ _ _ _ _ => args3 fun _ _ _ => rfl
  have G2 : Fn K mg "is_within" sWithin ["thing", "low", "high"] f2 _ := ⟨F2, PySem.W.mg_of X G a2, b2⟩
  have F3 := fun_mk (st := sRest) l3 c3 k3
  have b3 := F3.binds (ps := ["beat", "number"]) fun _ _ _ _ _ _ => args2 fun _ _ => rfl
  have G3 : Fn K mg "rest_by" sRest ["beat", "number"] f3 _ := ⟨F3, PySem.W.mg_of X G a3, b3⟩
  have F4 := fun_mk (st := sWithSp) l4 c4 k4
  have b4 := F4.binds (ps := ["net", "more"]) fun _ _ _ _ _ _ => args2 fun _ _ => rfl
  have G4 : Fn K mg "with_spans" sWithSp ["net", "more"] f4 _ := ⟨F4, PySem.W.mg_of X G a4, b4⟩
  have F5 := fun_mk (st := sStep) l5 c5 k5
  have b5 := F5.binds (ps := ["net", "thing"]) fun _ _ _ _ _ _ => args2 fun _ _ => rfl
  have G5 : Fn K mg "is_step" sStep ["net", "thing"] f5 _ := ⟨F5, PySem.W.mg_of X G a5, b5⟩
  have F6 := fun_mk (st := sFrom) l6 c6 k6
  have b6 := F6.binds (ps := ["net", "step"]) fun _ _ _ _ _ _ => args2 fun _ _ => rfl
  have G6 : Fn K mg "leads_from" sFrom ["net", "step"] f6 _ := ⟨F6, PySem.W.mg_of X G a6, b6⟩
  have F7 := fun_mk (st := sTo) l7 c7 k7
  have b7 := F7.binds (ps := ["net", "step"]) fun _ _ _ _ _ _ => args2 fun _ _ => rfl
  have G7 : Fn K mg "leads_to" sTo ["net", "step"] f7 _ := ⟨F7, PySem.W.mg_of X G a7, b7⟩
  have F8 := fun_mk (st := sWay) l8 c8 k8
  have b8 := F8.binds (ps := ["net", "thing"]) fun _ _ _ _ _ _ => args2 fun _ _ => rfl
  have G8 : Fn K mg "is_way" sWay ["net", "thing"] f8 _ := ⟨F8, PySem.W.mg_of X G a8, b8⟩
  have F9 := fun_mk (st := sEndsO) l9 c9 k9
  have b9 := F9.binds (ps := ["net", "way"]) fun _ _ _ _ _ _ => args2 fun _ _ => rfl
  have G9 : Fn K mg "ends_of" sEndsO ["net", "way"] f9 _ := ⟨F9, PySem.W.mg_of X G a9, b9⟩
  have F10 := fun_mk (st := sFirst) l10 c10 k10
  have b10 := F10.binds (ps := ["net"]) fun _ _ _ _ _ _ => args1 fun _ => rfl
  have G10 : Fn K mg "first_bounds" sFirst ["net"] f10 _ := ⟨F10, PySem.W.mg_of X G a10, b10⟩
  have F11 := fun_mk (st := sSum) l11 c11 k11
  have b11 := F11.binds (ps := ["bounds", "way"]) fun _ _ _ _ _ _ => args2 fun _ _ => rfl
  have G11 : Fn K mg "sum_of" sSum ["bounds", "way"] f11 _ := ⟨F11, PySem.W.mg_of X G a11, b11⟩
  have F12 := fun_mk (st := sOver) l12 c12 k12
  have b12 := F12.binds (ps := ["net", "way"]) fun _ _ _ _ _ _ => args2 fun _ _ => rfl
  have G12 : Fn K mg "span_over" sOver ["net", "way"] f12 _ := ⟨F12, PySem.W.mg_of X G a12, b12⟩
  have F13 := fun_mk (st := sSummed) l13 c13 k13
  have b13 := F13.binds (ps := ["net", "way"]) fun _ _ _ _ _ _ => args2 fun _ _ => rfl
  have G13 : Fn K mg "summed" sSummed ["net", "way"] f13 _ := ⟨F13, PySem.W.mg_of X G a13, b13⟩
  have F14 := fun_mk (st := sCell) l14 c14 k14
  have b14 := F14.binds (ps := ["_law_script", "_law_k"]) fun _ _ _ _ _ _ => args2 fun _ _ => rfl
  have G14 : Fn K mg "_law_cell_at" sCell ["_law_script", "_law_k"] f14 _ := ⟨F14, PySem.W.mg_of X G a14, b14⟩
  have F15 := fun_mk (st := sBox) l15 c15 k15
  have b15 := F15.binds (ps := ["_law_script", "_law_k"]) fun _ _ _ _ _ _ => args2 fun _ _ => rfl
  have G15 : Fn K mg "_law_box" sBox ["_law_script", "_law_k"] f15 _ := ⟨F15, PySem.W.mg_of X G a15, b15⟩
  have F16 := fun_mk (st := sDraw) l16 c16 k16
  have b16 := F16.binds (ps := ["_law_box_here", "_law_most"]) fun _ _ _ _ _ _ => args2 fun _ _ => rfl
  have G16 : Fn K mg "_law_draw" sDraw ["_law_box_here", "_law_most"] f16 _ := ⟨F16, PySem.W.mg_of X G a16, b16⟩
  have F17 := fun_mk (st := sBeat) l17 c17 k17
  have b17 := F17.binds (ps := ["_law_box_here", "_law_most"]) fun _ _ _ _ _ _ => args2 fun _ _ => rfl
  have G17 : Fn K mg "_law_beat" sBeat ["_law_box_here", "_law_most"] f17 _ := ⟨F17, PySem.W.mg_of X G a17, b17⟩
  have F18 := fun_mk (st := sSpanB) l18 c18 k18
  have b18 := F18.binds (ps := ["_law_box_here", "_law_beat_here", "_law_many"]) fun _ _ _ _ _ _ => args3 fun _ _ _ => rfl
  have G18 : Fn K mg "_law_span" sSpanB ["_law_box_here", "_law_beat_here", "_law_many"] f18 _ := ⟨F18, PySem.W.mg_of X G a18, b18⟩
  have F19 := fun_mk (st := sNetB) l19 c19 k19
  have b19 := F19.binds (ps := ["_law_box_here", "_law_most"]) fun _ _ _ _ _ _ => args2 fun _ _ => rfl
  have G19 : Fn K mg "_law_net" sNetB ["_law_box_here", "_law_most"] f19 _ := ⟨F19, PySem.W.mg_of X G a19, b19⟩
  have F20 := fun_mk (st := sLeads) l20 c20 k20
  have b20 := F20.binds (ps := ["_law_net_here", "_law_step"]) fun _ _ _ _ _ _ => args2 fun _ _ => rfl
  have G20 : Fn K mg "_law_leads" sLeads ["_law_net_here", "_law_step"] f20 _ := ⟨F20, PySem.W.mg_of X G a20, b20⟩
  have F21 := fun_mk (st := sWalk) l21 c21 k21
  have b21 := F21.binds (ps := ["_law_box_here", "_law_net_here", "_law_most"]) fun _ _ _ _ _ _ => args3 fun _ _ _ => rfl
  have G21 : Fn K mg "_law_walk" sWalk ["_law_box_here", "_law_net_here", "_law_most"] f21 _ := ⟨F21, PySem.W.mg_of X G a21, b21⟩
  have F22 := fun_mk (st := sWholeL) l22 c22 k22
  have b22 := F22.binds (ps := ["_law_found"]) fun _ _ _ _ _ _ => args1 fun _ => rfl
  have G22 : Fn K mg "_law_whole" sWholeL ["_law_found"] f22 _ := ⟨F22, PySem.W.mg_of X G a22, b22⟩
  have F23 := fun_mk (st := sIsWay) l23 c23 k23
  have b23 := F23.binds (ps := ["_law_net_here", "_law_thing"]) fun _ _ _ _ _ _ => args2 fun _ _ => rfl
  have G23 : Fn K mg "_law_is_way" sIsWay ["_law_net_here", "_law_thing"] f23 _ := ⟨F23, PySem.W.mg_of X G a23, b23⟩
  have F24 := fun_mk (st := sDueS) l24 c24 k24
  have b24 := F24.binds (ps := ["_law_net_here", "_law_way"]) fun _ _ _ _ _ _ => args2 fun _ _ => rfl
  have G24 : Fn K mg "_law_due" sDueS ["_law_net_here", "_law_way"] f24 _ := ⟨F24, PySem.W.mg_of X G a24, b24⟩
  have F25 := fun_mk (st := sTold) l25 c25 k25
  have b25 := F25.binds (ps := ["_law_net_here", "_law_way"]) fun _ _ _ _ _ _ => args2 fun _ _ => rfl
  have G25 : Fn K mg "_law_told" sTold ["_law_net_here", "_law_way"] f25 _ := ⟨F25, PySem.W.mg_of X G a25, b25⟩
  have F26 := fun_mk (st := sBentS) l26 c26 k26
  have b26 := F26.binds (ps := ["_law_box_here", "_law_net_here", "_law_way"]) fun _ _ _ _ _ _ => args3 fun _ _ _ => rfl
  have G26 : Fn K mg "_law_bent" sBentS ["_law_box_here", "_law_net_here", "_law_way"] f26 _ := ⟨F26, PySem.W.mg_of X G a26, b26⟩
  have F27 := fun_mk (st := sFill) l27 c27 k27
  have b27 := F27.binds (ps := ["_law_box_here", "_law_net_here"]) fun _ _ _ _ _ _ => args2 fun _ _ => rfl
  have G27 : Fn K mg "_law_filled" sFill ["_law_box_here", "_law_net_here"] f27 _ := ⟨F27, PySem.W.mg_of X G a27, b27⟩
  have F28 := fun_mk (st := sLaw) l28 c28 k28
  have m1 := PySem.W.mg_none_of X G z1
  have m2 := PySem.W.mg_none_of X G z2
  have m3 := PySem.W.mg_none_of X G z3
  have m4 := PySem.W.mg_none_of X G z4
  have m5 := PySem.W.mg_none_of X G z5
  have m6 := PySem.W.mg_none_of X G z6
  have m7 := PySem.W.mg_none_of X G z7
  have m8 := PySem.W.mg_none_of X G z8
  have m9 := PySem.W.mg_none_of X G z9
  have m10 := PySem.W.mg_none_of X G z10
  have m11 := PySem.W.mg_none_of X G z11
  have m12 := PySem.W.mg_none_of X G z12
  have m13 := PySem.W.mg_none_of X G z13
  have i1 := PySem.W.mg_of X G y1
  have X1 : Exc K mg "HourError" x1 := ⟨PySem.W.mg_of X G q1, r1⟩
  have X2 : Exc K mg "NoWay" x2 := ⟨PySem.W.mg_of X G q2, r2⟩
  have X3 : Exc K mg "TooWide" x3 := ⟨PySem.W.mg_of X G q3, r3⟩
  refine ⟨PySem.W.fnOf "law" "law" (defArgs sLaw) (defBody sLaw) (defScope sLaw) .none kV28 dc28 pm28 an28 cd28 ct28, fun s v => .of_eq rfl, fun base _ _ => ?_⟩
  have T : Nm mg := ⟨m1, m2, m3, m4, m5, m6, m7⟩
  have T2 : Nt mg := ⟨m8, m9, m10, m11, m12, m13⟩
  have FI := fun_mk (st := sInitTG) w7 w8 w9
  have BI := FI.binds (ps := ["self", "many", "most"]) fun _ _ _ _ _ _ => args3 fun _ _ _ => rfl
  have TG : TGc K mg xc x1 xi := ⟨⟨⟨_, _, _, _, _, _, _, _, _, _, _, _, _, _, w3⟩, r1, w2, w4, w5, w6⟩, ⟨w10, w11, w12⟩, ⟨w13, w14, w15, w16, w17, w18, w19, w20⟩, w21, w22, PySem.W.mg_of X G w1, PySem.W.mg_of X G q1⟩
  have S3 : S3c K mg x2 x3 xc x1 xa xb xd xe := ⟨X2.mg, X3.mg, TG.mgC, PySem.W.mg_of X G w38, PySem.W.mg_of X G w39, PySem.W.mg_of X G w40, PySem.W.mg_of X G w41, ⟨w24, w25, w26, w16, w17, w27, w28, w29⟩, ⟨w31, w32, w33, w16, w17, w34, w35, w36⟩, TG.cl, ⟨w30⟩, ⟨w37⟩, ⟨w23⟩, w42, w43, w44, w45, w46, w47, w48, w49, w50⟩
  have WX : FnOk l.prog w K mg base (CXN l.prog w) 3 f4 _ ["net", "more"] (spWithX xc) := ok_withX F4 T ⟨_, i1⟩ TG (ok_initTG FI TG) BI
  have Y : FnOk l.prog w K mg base CX0 4 f8 _ ["net", "thing"] spWayP := ok_way F8 T T2 G5 (ok_step F5 T G2 G1) G6 G7
  have En : FnOk l.prog w K mg base CX0 2 f9 _ ["net", "way"] spEndsO := ok_endsO F9 G6 G7
  have O : FnOk l.prog w K mg base (CXN l.prog w) 3 f12 _ ["net", "way"] (spOverX x3) := ok_overX F12 X3 G9 En G11 (ok_sum F11) G10 (ok_first F10 T) G3 (ok_rest F3)
  have S : FnOk l.prog w K mg base (CXN l.prog w) 5 f13 _ ["net", "way"] (spSummedX x2 x3 xc) := ok_summedX F13 X2 G8 Y G9 En G12 O G4 WX
  have LW : FnOk l.prog w K mg base CX0 2 f23 _ ["_law_net_here", "_law_thing"] spWayP := ok_isWay F23 T G22 G20
  exact ok_law F28 T T2 G15 (ok_box F15 T T2 G14) G19 (ok_netB F19 T T2 G16 G17 G18) G16 (ok_draw F16) G27 (ok_fill F27 T T2 G18 (ok_spanB F18 T G16)) G21 (ok_walk F21 T T2 G16 G20) G26 (ok_bentS F26 T G16) G25 (ok_told F25 T TG S3 X1 G13 S) G24 (ok_dueS F24 T G23 LW G20)
theorem walk {l : PySem.W.OpenLaw} {q : Program} {loose : List Str} {XP : (Str → Option Value) → Heap → Prop} {YP : World → Heap → Prop} {d : DefRec} {K : Params → PySem.W.Frag} (hn : l.most = some 63) (hdf : d.params.defaults = [])
    (hY : ∀ (w : World) (h : Heap), YP w h → (K w.params).In h)
    (F : ∀ (w : World) (mg : Str → Option Value) (fa : Addr) (h : Heap), (K w.params).In h → h.Ns mainGlobals mg → mg d.name = some (.ref fa) →
      ∃ fd : FuncData, (∀ (s : Shared) (u : Value), BindsTo s fd ⟨[u], []⟩ [("_law_script", u)]) ∧ ∀ base : Heap, (K w.params).In base → base.Ns mainGlobals mg → FnOk l.prog w (K w.params) mg base CX0 7 fa fd ["_law_script"] (spLaw (K w.params))) :
    PySem.W.WalkO q loose XP YP l.row.toRowW d [] (fun f vs => PySem.call f vs) :=
  L2.walk_of (n := 63) (k := 7) (x := "_law_script") (CX := fun _ => CX0) (sp := fun w => spLaw (K w.params)) hn (by decide) hdf ⟨rfl, by decide, by decide⟩ hY F (fun _ _ a ns hl _ hS => ⟨a, ns, rfl, hS, hl, fun _ => rfl⟩) fun _ _ _ _ _ z => z
end HN
open PySem PySem.W PyProof.Rows
set_option maxRecDepth 100000 in
set_option maxHeartbeats 0 in
theorem PySem.Challenge.cw_hourtable_k62_sums_of_spans_holds : PySem.Challenge.rw_hourtable_k62_sums_of_spans.Holds := by
  w_on; o_law; k_head; (case hw => w_witness2)
  k_fill
  refine HN.walk (l := PySem.Challenge.rw_hourtable_k62_sums_of_spans) rfl rfl (fun w h Y => PySem.W.kIn_of Y) ?F
  case F =>
    intro w mg fa h KX G hmg
    refine' HN.all_mk KX G hmg ?a1 ?l1 ?c1 ?k1 ?a2 ?l2 ?c2 ?k2 ?a3 ?l3 ?c3 ?k3 ?a4 ?l4 ?c4 ?k4 ?a5 ?l5 ?c5 ?k5 ?a6 ?l6 ?c6 ?k6 ?a7 ?l7 ?c7 ?k7 ?a8 ?l8 ?c8 ?k8 ?a9 ?l9 ?c9 ?k9 ?a10 ?l10 ?c10 ?k10 ?a11 ?l11 ?c11 ?k11 ?a12 ?l12 ?c12 ?k12 ?a13 ?l13 ?c13 ?k13 ?a14 ?l14 ?c14 ?k14 ?a15 ?l15 ?c15 ?k15 ?a16 ?l16 ?c16 ?k16 ?a17 ?l17 ?c17 ?k17 ?a18 ?l18 ?c18 ?k18 ?a19 ?l19 ?c19 ?k19 ?a20 ?l20 ?c20 ?k20 ?a21 ?l21 ?c21 ?k21 ?a22 ?l22 ?c22 ?k22 ?a23 ?l23 ?c23 ?k23 ?a24 ?l24 ?c24 ?k24 ?a25 ?l25 ?c25 ?k25 ?a26 ?l26 ?c26 ?k26 ?a27 ?l27 ?c27 ?k27 ?a28 ?l28 ?c28 ?k28 ?y1 ?z1 ?z2 ?z3 ?z4 ?z5 ?z6 ?z7 ?z8 ?z9 ?z10 ?z11 ?z12 ?z13 ?q1 ?r1 ?q2 ?r2 ?q3 ?r3 ?w1 ?w2 ?w3 ?w4 ?w5 ?w6 ?w7 ?w8 ?w9 ?w10 ?w11 ?w12 ?w13 ?w14 ?w15 ?w16 ?w17 ?w18 ?w19 ?w20 ?w21 ?w22 ?w23 ?w24 ?w25 ?w26 ?w27 ?w28 ?w29 ?w30 ?w31 ?w32 ?w33 ?w34 ?w35 ?w36 ?w37 ?w38 ?w39 ?w40 ?w41 ?w42 ?w43 ?w44 ?w45 ?w46 ?w47 ?w48 ?w49 ?w50
    (case a1 => k_is); (case l1 => k_is); (case c1 => k_is); (case k1 => k_is)
    (case a2 => k_is); (case l2 => k_is); (case c2 => k_is); (case k2 => k_is)
    (case a3 => k_is); (case l3 => k_is); (case c3 => k_is); (case k3 => k_is)
    (case a4 => k_is); (case l4 => k_is); (case c4 => k_is); (case k4 => k_is)
    (case a5 => k_is); (case l5 => k_is); (case c5 => k_is); (case k5 => k_is)
    (case a6 => k_is); (case l6 => k_is); (case c6 => k_is); (case k6 => k_is)
    (case a7 => k_is); (case l7 => k_is); (case c7 => k_is); (case k7 => k_is)
    (case a8 => k_is); (case l8 => k_is); (case c8 => k_is); (case k8 => k_is)
    (case a9 => k_is); (case l9 => k_is); (case c9 => k_is); (case k9 => k_is)
    (case a10 => k_is); (case l10 => k_is); (case c10 => k_is); (case k10 => k_is)
    (case a11 => k_is); (case l11 => k_is); (case c11 => k_is); (case k11 => k_is)
    (case a12 => k_is); (case l12 => k_is); (case c12 => k_is); (case k12 => k_is)
    (case a13 => k_is); (case l13 => k_is); (case c13 => k_is); (case k13 => k_is)
    (case a14 => k_is); (case l14 => k_is); (case c14 => k_is); (case k14 => k_is)
    (case a15 => k_is); (case l15 => k_is); (case c15 => k_is); (case k15 => k_is)
    (case a16 => k_is); (case l16 => k_is); (case c16 => k_is); (case k16 => k_is)
    (case a17 => k_is); (case l17 => k_is); (case c17 => k_is); (case k17 => k_is)
    (case a18 => k_is); (case l18 => k_is); (case c18 => k_is); (case k18 => k_is)
    (case a19 => k_is); (case l19 => k_is); (case c19 => k_is); (case k19 => k_is)
    (case a20 => k_is); (case l20 => k_is); (case c20 => k_is); (case k20 => k_is)
    (case a21 => k_is); (case l21 => k_is); (case c21 => k_is); (case k21 => k_is)
    (case a22 => k_is); (case l22 => k_is); (case c22 => k_is); (case k22 => k_is)
    (case a23 => k_is); (case l23 => k_is); (case c23 => k_is); (case k23 => k_is)
    (case a24 => k_is); (case l24 => k_is); (case c24 => k_is); (case k24 => k_is)
    (case a25 => k_is); (case l25 => k_is); (case c25 => k_is); (case k25 => k_is)
    (case a26 => k_is); (case l26 => k_is); (case c26 => k_is); (case k26 => k_is)
    (case a27 => k_is); (case l27 => k_is); (case c27 => k_is); (case k27 => k_is)
    (case a28 => k_is); (case l28 => k_is); (case c28 => k_is); (case k28 => k_is)
    (case y1 => k_is)
    (case z1 => k_is)
    (case z2 => k_is)
    (case z3 => k_is)
    (case z4 => k_is)
    (case z5 => k_is)
    (case z6 => k_is)
    (case z7 => k_is)
    (case z8 => k_is)
    (case z9 => k_is)
    (case z10 => k_is)
    (case z11 => k_is)
    (case z12 => k_is)
    (case z13 => k_is)
    (case q1 => k_is); (case r1 => k_exc)
    (case q2 => k_is); (case r2 => k_exc)
    (case q3 => k_is); (case r3 => k_exc)
    (case w1 => k_is)
    (case w2 => k_is)
    (case w3 => k_is)
    (case w4 => k_is)
    (case w5 => k_is)
    (case w6 => k_is)
    (case w7 => k_is)
    (case w8 => k_is)
    (case w9 => k_is)
    (case w10 => k_is)
    (case w11 => k_is)
    (case w12 => k_is)
    (case w13 => k_is)
    (case w14 => k_is)
    (case w15 => k_is)
    (case w16 => k_is)
    (case w17 => k_is)
    (case w18 => k_is)
    (case w19 => k_is)
    (case w20 => k_is)
    (case w21 => k_is)
    (case w22 => k_is)
    (case w23 => k_is)
    (case w24 => k_is)
    (case w25 => k_is)
    (case w26 => k_is)
    (case w27 => k_is)
    (case w28 => k_is)
    (case w29 => k_is)
    (case w30 => k_is)
    (case w31 => k_is)
    (case w32 => k_is)
    (case w33 => k_is)
    (case w34 => k_is)
    (case w35 => k_is)
    (case w36 => k_is)
    (case w37 => k_is)
    (case w38 => k_is)
    (case w39 => k_is)
    (case w40 => k_is)
    (case w41 => k_is)
    (case w42 => kit_is)
    (case w43 => kit_is)
    (case w44 => kit_is)
    (case w45 => kit_is)
    (case w46 => kit_is)
    (case w47 => kit_is)
    (case w48 => kit_is)
    (case w49 => kit_is)
    (case w50 => kit_is)
