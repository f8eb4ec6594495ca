import PyProof.Rows.All
import Wide.All
import OpenK.AllK
import Wide.FinOn
import Lean
import PyProof.EqAt
import PyProof.EqKinds
import PyProof.TupleCall
import PySem.Challenge.RW_hourtable_k36_whole_trees_to_the_end
set_option Elab.async false
set_option linter.all false
set_option maxRecDepth 100000
set_option bootstrap.genMatcherCode false
noncomputable section
set_option maxHeartbeats 4000000
theorem gE {α : Type} {l : List α} {i : Nat} (h : i < l.length) : l[i]? = some l[i] := List.getElem?_eq_getElem h
namespace L2
open PySem PySem.Spec PyProof.Rows
abbrev Key := Sum Int Str
def keyIs : Key → Value → Bool
 | .inl k, v => Value.isInt k v
 | .inr x, v => Value.isStrOf x v
def keyH (w : World) : Key → Int
 | .inl k => hashInt k
 | .inr x => hashStr w x
theorem keyIs_shape : ∀ {k : Key} {v : Value}, keyIs k v = true → (∃ i t, k = Sum.inl i ∧ v = Value.int i t) ∨ (∃ x t, k = Sum.inr x ∧ v = Value.str x t)
 | .inl i, v, h => by
  obtain ⟨t, e⟩ := Value.isInt_shape (k := i) (v := v) h
  exact .inl ⟨i, t, rfl, e⟩
 | .inr x, v, h => by
  obtain ⟨t, e⟩ := Value.isStrOf_shape (x := x) (v := v) h
  exact .inr ⟨x, t, rfl, e⟩
theorem keyIs_int (i : Int) (t : Tok) : keyIs (.inl i) (.int i t) = true := by simp [keyIs, Value.isInt]
theorem keyIs_str (x : Str) (t : Tok) : keyIs (.inr x) (.str x t) = true := by simp [keyIs, Value.isStrOf]
theorem key_ll (a b : Int) : decide ((Sum.inl a : Key) = Sum.inl b) = (a == b) := by
 by_cases e : a = b
 ·subst e; simp
 ·have h : ¬ (Sum.inl a : Key) = Sum.inl b := fun q => e (Sum.inl.inj q)
  rw [decide_eq_false h]
  exact (beq_eq_false_iff_ne.mpr e).symm
theorem key_rr (a b : Str) : decide ((Sum.inr a : Key) = Sum.inr b) = decide (a = b) := by
 by_cases e : a = b
 ·subst e; simp
 ·have h : ¬ (Sum.inr a : Key) = Sum.inr b := fun q => e (Sum.inr.inj q)
  rw [decide_eq_false h, decide_eq_false e]
theorem key_lr (a : Int) (b : Str) : decide ((Sum.inl a : Key) = Sum.inr b) = false := decide_eq_false (fun q => nomatch q)
theorem key_rl (a : Str) (b : Int) : decide ((Sum.inr a : Key) = Sum.inl b) = false := decide_eq_false (fun q => nomatch q)
def mixKind (prog : Program) (w : World) : PySem.KeyKind prog w Key where
 is := keyIs
 hash := keyH w
 inj := fun v a b ha hb => by
  rcases keyIs_shape ha with ⟨i, t, rfl, rfl⟩ | ⟨x, t, rfl, rfl⟩
  ·rcases keyIs_shape hb with ⟨j, u, rfl, e⟩ | ⟨y, u, rfl, e⟩
   ·injection e with e1 _; rw [e1]
   ·exact nomatch e
  ·rcases keyIs_shape hb with ⟨j, u, rfl, e⟩ | ⟨y, u, rfl, e⟩
   ·exact nomatch e
   ·injection e with e1 _; rw [e1]
 byValue := fun k v h => by
  rcases keyIs_shape h with ⟨i, t, rfl, rfl⟩ | ⟨x, t, rfl, rfl⟩ <;> rfl
 pyHash := fun hv h => by
  rcases keyIs_shape hv with ⟨i, t, rfl, rfl⟩ | ⟨x, t, rfl, rfl⟩
  ·exact wpAny_pyHash_int h
  ·exact wpAny_pyHash_str h
 eqBool := fun hu hv h => by
  rcases keyIs_shape hu with ⟨i, t, rfl, rfl⟩ | ⟨x, t, rfl, rfl⟩
  ·rcases keyIs_shape hv with ⟨j, u, rfl, rfl⟩ | ⟨y, u, rfl, rfl⟩
   ·rw [key_ll] at h; exact wpAny_eqBool_int h
   ·rw [key_lr] at h; exact SeqAt.EqAt.int_str i t y u _ _ _ _ h
  ·rcases keyIs_shape hv with ⟨j, u, rfl, rfl⟩ | ⟨y, u, rfl, rfl⟩
   ·rw [key_rl] at h; exact SeqAt.EqAt.str_int x t j u _ _ _ _ h
   ·rw [key_rr] at h; exact wpAny_eqBool_str h
 «strs» := fun k x t v h => by
  rcases keyIs_shape h with ⟨i, u, rfl, e⟩ | ⟨y, u, rfl, e⟩
  ·exact nomatch e
  ·injection e with e1 _
   subst e1
   cases v <;> rfl
theorem mixKind_int (prog : Program) (w : World) (i : Int) (t : Tok) : (mixKind prog w).is (.inl i) (.int i t) = true := keyIs_int i t
theorem mixKind_str (prog : Program) (w : World) (x : Str) (t : Tok) : (mixKind prog w).is (.inr x) (.str x t) = true := keyIs_str x t
end L2
namespace L2
open PySem PySem.Spec PyProof.Rows
inductive V where
 | non | bl (b : Bool) | int (i : Int) | str (x : Str) | byt (b : Array UInt8) | flt (b : UInt64) | ref (a : Addr) | ty (n : String)
 deriving DecidableEq
def RelV : V → Value → Prop
 | .non, u => u = Value.none
 | .bl b, u => u = Value.bool b
 | .int i, u => ∃ t, u = Value.int i t
 | .str x, u => ∃ t, u = Value.str x t
 | .byt b, u => ∃ t, u = Value.bytes b t
 | .flt b, u => ∃ t, u = Value.float b t
 | .ref a, u => u = Value.ref a
 | .ty n, u => u = Value.type n
abbrev Vals : List V → List Value → Prop := Paired RelV
theorem Vals.length {xs : List V} {us : List Value} (r : Vals xs us) : xs.length = us.length := Paired.length r
theorem Vals.get : ∀ {xs : List V} {us : List Value} {i : Nat} {x : V}, Vals xs us → xs[i]? = some x → ∃ u, us[i]? = some u ∧ RelV x u
 | _, _, _, _, .nil, e => by simp at e
 | _, _, 0, _, .cons r _, e => by simp at e; subst e; exact ⟨_, rfl, r⟩
 | _, _, i + 1, x, .cons _ t, e => by
  obtain ⟨u, h1, h2⟩ := Vals.get (i := i) (x := x) t (by simpa using e)
  exact ⟨u, by simpa using h1, h2⟩
theorem Vals.set {x : V} {u : Value} (r : RelV x u) : ∀ {xs : List V} {us : List Value} (i : Nat), Vals xs us → Vals (xs.set i x) (us.set i u)
 | _, _, _, .nil => .nil
 | _, _, 0, .cons _ t => .cons r t
 | _, _, i + 1, .cons q t => .cons q (Vals.set r i t)
theorem Vals.append : ∀ {xs ys : List V} {us ws : List Value}, Vals xs us → Vals ys ws → Vals (xs ++ ys) (us ++ ws)
 | _, _, _, _, .nil, s => s
 | _, _, _, _, .cons r t, s => .cons r (Vals.append t s)
theorem Vals.take : ∀ {xs : List V} {us : List Value} (n : Nat), Vals xs us → Vals (xs.take n) (us.take n)
 | _, _, 0, _ => .nil
 | _, _, _ + 1, .nil => .nil
 | _, _, n + 1, .cons r t => .cons r (Vals.take n t)
theorem Vals.drop : ∀ {xs : List V} {us : List Value} (n : Nat), Vals xs us → Vals (xs.drop n) (us.drop n)
 | _, _, 0, r => r
 | _, _, _ + 1, .nil => .nil
 | _, _, n + 1, .cons _ t => Vals.drop n t
theorem Vals.none_of : ∀ {xs : List V} {us : List Value} {i : Nat}, Vals xs us → xs[i]? = none → us[i]? = none := fun {xs us i} r e => by
 have h1 := r.length
 have h2 : xs.length ≤ i := List.getElem?_eq_none_iff.mp e
 exact List.getElem?_eq_none_iff.mpr (by omega)
def RelO : Option V → Option Value → Prop
 | some v, some u => RelV v u
 | none, none => True
 | _, _ => False
def KV {κ : Type} : List (κ × V) → List (κ × Value) → Prop := Paired fun (p : κ × V) (q : κ × Value) => p.1 = q.1 ∧ RelV p.2 q.2
def kV : Key → V
 | .inl i => .int i
 | .inr x => .str x
inductive HO where
 | lst (xs : List V)
 | tup (xs : List V)
 | dK (kvs : List (Key × V)) | dT (kvs : List (List Key × V))
 | set (S : Int → Bool) (n : Nat)
 | ins (C dx : Addr) (fs : List (Str × V))
 | own (x : Addr)
 | xd (fs : List (Str × V))
 | met (f x : Addr)
 | rng (lo hi : Int)
 | frz (o : Obj) (u : HO)
 | tbl (ps : Array Value)
 | ext (φ : Heap → Prop)
abbrev Hp := Addr → Option HO
def upd (H : Hp) (a : Addr) (o : HO) : Hp := fun b => if b = a then some o else H b
theorem upd_same {H : Hp} {a : Addr} {o : HO} : upd H a o a = some o := by unfold upd; rw [if_pos rfl]
theorem upd_ne {H : Hp} {a b : Addr} {o : HO} (h : b ≠ a) : upd H a o b = H b := by unfold upd; rw [if_neg h]
theorem ne_of {H : Hp} {a b : Addr} {o u : HO} (h : H a = some o) (h' : H b = some u) (d : o ≠ u) : a ≠ b := by
 intro e; subst e; rw [h] at h'; exact d (Option.some.inj h')
theorem ne_of_none {H : Hp} {a b : Addr} {o : HO} (h : H a = some o) (h' : H b = none) : a ≠ b := by
 intro e; subst e; rw [h] at h'; cases h'
def IsTupN (h : Heap) (a : Addr) (items : Array Value) : Prop := ∃ o, h.get? a = some o ∧ o.cls = .type "tuple" ∧ o.dict = none ∧ ∃ n, o.data = .seq items n
theorem IsTupN.tup {h : Heap} {a : Addr} {items : Array Value} (p : IsTupN h a items) : IsTup h a items := let ⟨o, e, c, _, n, d⟩ := p; ⟨o, e, c, n, d⟩
theorem IsTupN.lt {h : Heap} {a : Addr} {items : Array Value} (p : IsTupN h a items) : a < h.objs.size := p.tup.lt
theorem IsTupN.new (h : Heap) (items : Array Value) : IsTupN (h.push { cls := .type "tuple", data := .seq items }) h.objs.size items := ⟨_, Heap.get?_push_size _ rfl, rfl, rfl, _, rfl⟩
section
variable (P : Program) (w : World)
def ObjOk (H : Hp) (h : Heap) (a : Addr) : HO → Prop
 | .lst xs => xs.length ≤ sizeLine ∧ ∃ (its : List Value) (n : Nat), Vals xs its ∧ h.get? a = some { cls := .type "list", data := .seq its.toArray n }
 | .tup xs => xs.length ≤ sizeLine ∧ ∃ its : List Value, Vals xs its ∧ IsTupN h a its.toArray
 | .dK kvs => kvs.length ≤ sizeLine ∧ (a == sysModules) = false ∧ ∃ vs, KV kvs vs ∧ h.DictOf (mixKind P w) a vs
 | .dT kvs => kvs.length ≤ sizeLine ∧ (a == sysModules) = false ∧ ∃ xs : List (List Key × Addr × Value),
   Paired (fun (p : List Key × V) (q : List Key × Addr × Value) => p.1 = q.1 ∧ H q.2.1 = some (.tup (p.1.map kV)) ∧ RelV p.2 q.2.2) kvs xs ∧
   ∃ o es ep, h.get? a = some o ∧ o.ExactDict ∧ o.data = .dict es ep ∧ es.toList = xs.map (entryOfKey (tupleKind (mixKind P w))) ∧ (xs.map (·.1)).Nodup
 | .set S n => h.SetOf (intKind P w) a S n
 | .ins C dx fs => H dx = some (.own a) ∧ fs.length ≤ 1000 ∧ dx ≠ a ∧ h.get? a = some (PySem.W.instObj C dx) ∧
   ∃ mA, h.Ns1 dx mA ∧ (∀ f, RelO (fs.lookup f) (mA f)) ∧ PySem.Within mA (fs.map (·.1))
 | .own _ => ∃ o, h.get? a = some o
 | .xd fs => ∃ mA, h.Ns1 a mA ∧ ∀ f, RelO (fs.lookup f) (mA f)
 | .rng lo hi => ∃ t u v, h.get? a = some { cls := .type "range", data := .fields #[.int lo t, .int hi u, .int 1 v] }
 | .frz o u => h.get? a = some o ∧ ObjOk H h a u
 | .tbl ps => h.get? a = some { cls := .none, data := .fields ps }
 | .met f x => h.get? a = some (PySem.W.methodObj (.ref f) (.ref x))
 | .ext φ => φ h ∧ (∃ o, h.get? a = some o) ∧ ∀ h1 h2 : Heap, φ h1 → (∀ o, h1.get? a = some o → h2.get? a = some o) → φ h2
def HOk (H : Hp) (h : Heap) : Prop := ∀ a o, H a = some o → ObjOk P w H h a o
end
section
variable {P : Program} {w : World} {H H' : Hp} {h h' : Heap} {a : Addr} {o : HO}
theorem ObjOk.lt (x : ObjOk P w H h a o) : a < h.objs.size := by
 cases o with
 | lst xs => obtain ⟨_, _, _, _, e⟩ := x; exact Heap.lt_size e
 | tup xs => obtain ⟨_, _, _, p⟩ := x; exact p.lt
 | dK kvs => obtain ⟨_, _, _, _, o, _, _, e, _⟩ := x; exact Heap.lt_size e
 | dT kvs => obtain ⟨_, _, _, _, o, _, _, e, _⟩ := x; exact Heap.lt_size e
 | set S n => obtain ⟨o, _, _, _, e, _⟩ := x; exact Heap.lt_size e
 | ins C dx fs => obtain ⟨_, _, _, e, _⟩ := x; exact Heap.lt_size e
 | own y => obtain ⟨_, e⟩ := x; exact Heap.lt_size e
 | xd fs => obtain ⟨_, ⟨_, _, _, e, _⟩, _⟩ := x; exact Heap.lt_size e
 | rng lo hi => obtain ⟨_, _, _, e⟩ := x; exact Heap.lt_size e
 | frz ob u => obtain ⟨e, _⟩ := x; exact Heap.lt_size e
 | tbl ps => exact Heap.lt_size (show h.get? a = some _ from x)
 | met f y => exact Heap.lt_size (show h.get? a = some _ from x)
 | ext φ => obtain ⟨_, ⟨_, e⟩, _⟩ := x; exact Heap.lt_size e
theorem Paired.mapP {α β : Type} {F G : α → β → Prop} : ∀ {l₁ : List α} {l₂ : List β}, Paired F l₁ l₂ → (∀ a b, F a b → G a b) → Paired G l₁ l₂
 | _, _, .nil, _ => .nil
 | _, _, .cons r t, f => .cons (f _ _ r) (Paired.mapP t f)
theorem ObjOk.stay (x : ObjOk P w H h a o) (k : ∀ b u, (b = a ∨ H b = some (.own a)) → h.get? b = some u → h'.get? b = some u)
  (ho : ∀ b, H b = some (.own a) → H' b = some (.own a)) (ht : ∀ b xs, H b = some (.tup xs) → H' b = some (.tup xs)) : ObjOk P w H' h' a o := by
 induction o with
 | lst xs => obtain ⟨z, its, n, r, e⟩ := x; exact ⟨z, its, n, r, k _ _ (.inl rfl) e⟩
 | tup xs => obtain ⟨z, its, r, ob, e, c⟩ := x; exact ⟨z, its, r, ob, k _ _ (.inl rfl) e, c⟩
 | dK kvs => obtain ⟨z, y, vs, r, ob, es, ep, e, c⟩ := x; exact ⟨z, y, vs, r, ob, es, ep, k _ _ (.inl rfl) e, c⟩
 | dT kvs =>
  obtain ⟨z, y, xs, r, ob, es, ep, e, c⟩ := x
  exact ⟨z, y, xs, Paired.mapP r fun p q z => ⟨z.1, ht _ _ z.2.1, z.2.2⟩, ob, es, ep, k _ _ (.inl rfl) e, c⟩
 | set S n => obtain ⟨ob, es, ep, t, e, c⟩ := x; exact ⟨ob, es, ep, t, k _ _ (.inl rfl) e, c⟩
 | ins C dx fs =>
  obtain ⟨d, z, ne, e, mA, ⟨od, es, ep, e2, c⟩, r⟩ := x
  exact ⟨ho _ d, z, ne, k _ _ (.inl rfl) e, mA, ⟨od, es, ep, k _ _ (.inr d) e2, c⟩, r⟩
 | own y => obtain ⟨ob, e⟩ := x; exact ⟨ob, k _ _ (.inl rfl) e⟩
 | xd fs => obtain ⟨mA, ⟨od, es, ep, e, c⟩, r⟩ := x; exact ⟨mA, ⟨od, es, ep, k _ _ (.inl rfl) e, c⟩, r⟩
 | rng lo hi => obtain ⟨t, u, v, e⟩ := x; exact ⟨t, u, v, k _ _ (.inl rfl) e⟩
 | frz ob u ih => obtain ⟨e, q⟩ := x; exact ⟨k _ _ (.inl rfl) e, ih q⟩
 | tbl ps =>
  have e : h.get? a = some { cls := .none, data := .fields ps } := x
  show h'.get? a = some { cls := .none, data := .fields ps }
  exact k a _ (.inl rfl) e
 | met f y =>
  have e : h.get? a = some (PySem.W.methodObj (.ref f) (.ref y)) := x
  show h'.get? a = some (PySem.W.methodObj (.ref f) (.ref y))
  exact k a _ (.inl rfl) e
 | ext φ => obtain ⟨p, ⟨o, e⟩, st⟩ := x; exact ⟨st _ _ p fun o q => k _ _ (.inl rfl) q, ⟨o, k _ _ (.inl rfl) e⟩, st⟩
theorem HOk.lt (x : HOk P w H h) (e : H a = some o) : a < h.objs.size := (x a o e).lt
theorem HOk.fresh (x : HOk P w H h) (e : h.objs.size ≤ a) : H a = none := by
 cases q : H a with
 | none => rfl
 | some u => exact absurd (Nat.lt_of_lt_of_le (x.lt q) e) (Nat.lt_irrefl _)
theorem HOk.kept (x : HOk P w H h) (k : ∀ b u, h.get? b = some u → h'.get? b = some u) : HOk P w H h' := fun a o e =>
 (x a o e).stay (fun b u _ q => k b u q) (fun _ q => q) fun _ _ q => q
theorem HOk.laid (x : HOk P w H h) (k : ∀ b u, h.get? b = some u → h'.get? b = some u) (hp : h.objs.size ≤ a) (new : ObjOk P w (upd H a o) h' a o) : HOk P w (upd H a o) h' := fun b u e => by
 have hn := x.fresh hp
 by_cases hb : b = a
 ·subst hb; rw [upd_same] at e; cases e; exact new
 ·rw [upd_ne hb] at e
  exact (x b u e).stay (fun c v _ q => k c v q) (fun c q => by rw [upd_ne (ne_of_none q hn)]; exact q) fun c xs q => by rw [upd_ne (ne_of_none q hn)]; exact q
end
def Rd (H : Hp) (a : Addr) (u : HO) : Prop := H a = some u ∨ ∃ o, H a = some (.frz o u)
theorem Rd.of {H : Hp} {a : Addr} {u : HO} (h : H a = some u) : Rd H a u := .inl h
theorem Rd.ok {P : Program} {w : World} {H : Hp} {h : Heap} {a : Addr} {u : HO} (r : Rd H a u) (x : HOk P w H h) : ObjOk P w H h a u := by
 rcases r with r | ⟨o, r⟩
 ·exact x a u r
 ·obtain ⟨_, q⟩ := x a _ r
  exact q
def Mut : Option HO → Prop
 | some (.lst _) => True
 | some (.dK _) => True
 | some (.dT _) => True
 | some (.set _ _) => True
 | some (.ins _ _ _) => True
 | some (.ext _) => True
 | _ => False
section
variable {P : Program} {w : World} {H : Hp} {h h' : Heap} {x e : Addr} {o' : HO}
theorem HOk.write (ok : HOk P w H h) (mu : Mut (H x)) (he : e = x ∨ H e = some (.own x)) (k : ∀ b u, b ≠ e → h.get? b = some u → h'.get? b = some u) (heo : ∃ u, h'.get? e = some u)
  (new : ObjOk P w (upd H x o') h' x o') : HOk P w (upd H x o') h' := fun b u q => by
 have nown : ∀ c y, H c = some (.own y) → c ≠ x := fun c y r z => by subst z; rw [r] at mu; exact mu
 have ntup : ∀ c xs, H c = some (.tup xs) → c ≠ x := fun c xs r z => by subst z; rw [r] at mu; exact mu
 by_cases hb : b = x
 ·subst hb; rw [upd_same] at q; cases q; exact new
 ·rw [upd_ne hb] at q
  by_cases hbe : b = e
  ·have q' : H b = some (.own x) := by
    rcases he with z | z
    ·exact absurd (hbe.trans z) hb
    ·rw [hbe]; exact z
   rw [q] at q'; cases q'
   obtain ⟨v, hv⟩ := heo
   exact ⟨v, by rw [hbe]; exact hv⟩
  ·refine (ok b u q).stay (fun c v hc r => k c v ?_ r) (fun c r => by rw [upd_ne (nown c b r)]; exact r) fun c xs r => by rw [upd_ne (ntup c xs r)]; exact r
   rcases hc with rfl | hc
   ·exact hbe
   ·rintro rfl
    rcases he with z | z
    ·exact nown c b hc z
    ·rw [hc] at z; cases z; exact hb rfl
end
structure Un (fs ex : List Addr) (H H' : Hp) (h h' : Heap) : Prop where
 keep : ∀ b o, h.get? b = some o → H b = none → b ∉ fs → b ∉ ex → h'.get? b = some o
 slot : ∀ b o, h.get? b = some o → H b = none → b ∈ fs → b ∉ ex → ∃ sl, h'.get? b = some { o with slots := sl }
 free : ∀ b o, h.get? b = some o → H b = none → b ∉ ex → H' b = none
 there : ∀ b o, h.get? b = some o → b ∉ ex → ∃ o', h'.get? b = some o'
 tups : ∀ b xs, H b = some (.tup xs) → H' b = some (.tup xs)
 frzs : ∀ b o u, H b = some (.frz o u) → H' b = some (.frz o u)
 tbls : ∀ b ps, H b = some (.tbl ps) → ∃ more, H' b = some (.tbl (ps ++ more))
section
variable {fs fs' ex ex' : List Addr} {H H1 H2 : Hp} {h h1 h2 h' : Heap} {a x e : Addr} {o : HO}
theorem Un.any (u : Un fs ex H H1 h h1) {b : Addr} {ob : Obj} (q : h.get? b = some ob) (n : H b = none) (hx : b ∉ ex) : ∃ sl, h1.get? b = some { ob with slots := sl } := by
 by_cases hb : b ∈ fs
 ·exact u.slot b ob q n hb hx
 ·exact ⟨ob.slots, u.keep b ob q n hb hx⟩
theorem Un.trans (a : Un fs ex H H1 h h1) (b : Un fs ex H1 H2 h1 h2) : Un fs ex H H2 h h2 where
 keep := fun c ob q n hc hx => b.keep c ob (a.keep c ob q n hc hx) (a.free c ob q n hx) hc hx
 slot := fun c ob q n hc hx => by
  obtain ⟨sl, e1⟩ := a.slot c ob q n hc hx
  obtain ⟨sl', e2⟩ := b.slot c _ e1 (a.free c ob q n hx) hc hx
  exact ⟨sl', e2⟩
 free := fun c ob q n hx => by
  obtain ⟨o', e1⟩ := a.there c ob q hx
  exact b.free c o' e1 (a.free c ob q n hx) hx
 there := fun c ob q hx => by
  obtain ⟨o', e1⟩ := a.there c ob q hx
  exact b.there c o' e1 hx
 tups := fun c xs q => b.tups c xs (a.tups c xs q)
 frzs := fun c ob xs q => b.frzs c ob xs (a.frzs c ob xs q)
 tbls := fun c ps q => by
  obtain ⟨m1, e1⟩ := a.tbls c ps q
  obtain ⟨m2, e2⟩ := b.tbls c _ e1
  exact ⟨m1 ++ m2, by rw [e2, Array.append_assoc]⟩
theorem Un.kept (k : ∀ b u, h.get? b = some u → h'.get? b = some u) : Un fs ex H H h h' :=
 ⟨fun b ob q _ _ _ => k b ob q, fun b ob q _ _ _ => ⟨ob.slots, k b ob q⟩, fun _ _ _ n _ => n, fun b ob q _ => ⟨ob, k b ob q⟩, fun _ _ q => q, fun _ _ _ q => q, fun _ ps q => ⟨#[], by rw [q]; simp⟩⟩
theorem Un.refl : Un fs ex H H h h := Un.kept fun _ _ q => q
theorem Un.laid (k : ∀ b u, h.get? b = some u → h'.get? b = some u) (hp : h.objs.size ≤ a) (hn : H a = none) : Un fs ex H (upd H a o) h h' where
 keep := fun b u q _ _ _ => k b u q
 slot := fun b u q _ _ _ => ⟨u.slots, k b u q⟩
 free := fun b u q n _ => by rw [upd_ne (Nat.ne_of_lt (Nat.lt_of_lt_of_le (Heap.lt_size q) hp))]; exact n
 there := fun b u q _ => ⟨u, k b u q⟩
 tups := fun b xs q => by rw [upd_ne (ne_of_none q hn)]; exact q
 frzs := fun b u xs q => by rw [upd_ne (ne_of_none q hn)]; exact q
 tbls := fun b ps q => ⟨#[], by rw [upd_ne (ne_of_none q hn), q]; simp⟩
theorem Un.write (mu : Mut (H x)) (he : e = x ∨ H e = some (.own x)) (k : ∀ b u, b ≠ e → h.get? b = some u → h'.get? b = some u) (heo : ∃ u, h'.get? e = some u) : Un fs ex H (upd H x o) h h' := by
 have hx : ∀ b, H b = none → b ≠ x := fun b n z => by subst z; rw [n] at mu; exact mu
 have hb : ∀ b, H b = none → b ≠ e := fun b n z => by
  subst z
  rcases he with r | r
  ·exact hx b n r
  ·rw [n] at r; cases r
 have hm : ∀ b u, H b = some u → ¬ Mut (some u) → b ≠ x := fun b u q nm z => by subst z; rw [q] at mu; exact nm mu
 refine ⟨fun b u q n _ _ => k b u (hb b n) q, fun b u q n _ _ => ⟨u.slots, k b u (hb b n) q⟩, fun b u q n _ => by rw [upd_ne (hx b n)]; exact n, fun b u q _ => ?_,
  fun b xs q => by rw [upd_ne (hm b _ q fun z => z)]; exact q, fun b u xs q => by rw [upd_ne (hm b _ q fun z => z)]; exact q, fun b ps q => ⟨#[], by rw [upd_ne (hm b _ q fun z => z), q]; simp⟩⟩
 by_cases hbe : b = e
 ·subst hbe; exact heo
 ·exact ⟨u, k b u hbe q⟩
theorem Un.mono (u : Un fs ex H H1 h h1) (hs : ∀ b ∈ fs, b ∈ fs') (hx : ∀ b ∈ ex, b ∈ ex') : Un fs' ex' H H1 h h1 :=
 ⟨fun b ob q n hb he => u.keep b ob q n (fun z => hb (hs b z)) fun z => he (hx b z), fun _ _ q n _ he => u.any q n fun z => he (hx _ z), fun b ob q n he => u.free b ob q n fun z => he (hx b z), fun b ob q he => u.there b ob q fun z => he (hx b z), u.tups, u.frzs, u.tbls⟩
end
def trk (h : Heap) (H : Hp) : List Addr := (List.range h.objs.size).filter fun a => (H a).isSome
def hidT (h : Heap) (H : Hp) : Heap := PySem.W.hideAll h (trk h H)
theorem hidT_size (h : Heap) (H : Hp) : (hidT h H).objs.size = h.objs.size := PySem.W.hideAll_size _ _
theorem hidT_get {h : Heap} {H : Hp} {b : Addr} {o : Obj} (e : h.get? b = some o) (n : H b = none) : (hidT h H).get? b = some o :=
 PySem.W.hideAll_get _ e fun hm => by
  have q : (H b).isSome = true := (List.mem_filter.mp hm).2
  rw [n] at q; simp at q
theorem of_hidT {h : Heap} {H : Hp} {b : Addr} {o : Obj} (e : (hidT h H).get? b = some o) : h.get? b = some o ∧ H b = none := by
 have e' : h.get? b = some o := PySem.W.of_hideAll (trk h H) e
 refine ⟨e', ?_⟩
 cases q : H b with
 | none => rfl
 | some x =>
  have hm : b ∈ trk h H := List.mem_filter.mpr ⟨List.mem_range.mpr (Heap.lt_size e'), by simp [q]⟩
  have z : (hidT h H).get? b = none := PySem.W.hideAll_none (trk h H) hm
  rw [z] at e; cases e
def allNews (g h : Heap) (L : Addr) : List (Addr × Obj) := (List.range h.objs.size).filterMap fun a => if a = L ∨ (g.get? a).isSome = true then none else (h.get? a).map fun o => (a, o)
def rest (g h : Heap) (L d : Addr) : List (Addr × Obj) := (allNews g h L).filter fun p => decide (p.1 ≠ d)
end L2
namespace L2
open PySem PySem.Spec PyProof.Rows
structure Mod (K : PySem.W.Frag) (mg : Str → Option Value) (base : Heap) : Prop where
 kin : K.In base
 glob : base.Ns mainGlobals mg
 blt : ∃ mb, base.Ns builtinsNs mb ∧ ∀ x : Str, x ≠ "__name__" → mb x = bootBuiltins x
 nolimit : base.NoLimit
structure Cx where
 prog : Program
 w : World
 K : PySem.W.Frag
 mg : Str → Option Value
 base : Heap
 A : Around
 N : List Str
 s₀ : Shared
 H₀ : Hp
 env : Env
 outer : List Env
 stack : List Env
 ex : List Addr
 fn : Str → Bool
 calm : Bool
 pn : List (Addr × Obj)
 xe : Value → Shared → Prop
def frs (l : List Env) : List Addr := l.filterMap (·.frame)
abbrev Cx.fs (X : Cx) : List Addr := frs X.outer
def Vis (sc : Scope) (x : Str) : Prop := sc.names.lookup x = some .local ∨ sc.names.lookup x = some .cell ∨ sc.names.lookup x = some .free
def Loc (sc : Scope) (x : Str) : Prop := sc.names.lookup x = some .local ∨ sc.names.lookup x = some .cell
def Look (env : Env) (h : Heap) (m : Str → Option Value) (x : Str) (u : Value) : Prop :=
 (env.kindOf x = some .local ∧ m x = some u) ∨ ((env.kindOf x = some .cell ∨ env.kindOf x = some .free) ∧ ∃ c, env.cells.lookup x = some c ∧ h.IsCell c (some u))
structure Cx.Ok (X : Cx) : Prop where
 mod : Mod X.K X.mg X.base
 kind : X.env.scope.kind = .function
 glob : X.env.globals = mainGlobals
 blt : X.env.builtins = builtinsNs
 above : X.s₀.heap.objs.size ≤ X.env.locals
 inj : ∀ x y c, X.env.cells.lookup x = some c → X.env.cells.lookup y = some c → x = y
 has : ∀ x, (X.env.kindOf x = some .cell ∨ X.env.kindOf x = some .free) → ∃ c, X.env.cells.lookup x = some c
 cab : ∀ x c, X.fn x = true → X.env.cells.lookup x = some c → X.s₀.heap.objs.size ≤ c
 hd : X.calm = true → X.A.handled = none
 frames : X.A.frames = some X.stack
 stk : X.stack = X.outer ∨ (X.stack = X.env :: X.outer ∧ X.env.frame = some X.env.locals)
 exf : ∀ b ∈ X.ex, b ≠ X.env.locals ∧ ∀ x c, X.env.cells.lookup x = some c → c ≠ b
 bs : ∀ b o, X.base.get? b = some o → X.s₀.heap.get? b = some o ∧ X.H₀ b = none
 bsz : X.base.objs.size ≤ X.s₀.heap.objs.size
 noex : ∀ b o, X.base.get? b = some o → b ∉ X.ex
 exfs : ∀ b ∈ X.ex, b ∉ X.fs
 funs : X.s₀.heap.FunFrames X.base X.outer
 frf : ∀ b ∈ X.fs, X.H₀ b = none
structure Inv (X : Cx) (pins : List (Addr × Obj)) (σ : List (Option V)) (H : Hp) (s : Shared) : Prop where
 ok : X.Ok
 os : s.os = X.s₀.os
 bare : AllBare s.gens
 base : Un X.fs X.ex X.H₀ H X.s₀.heap s.heap
 loc : ∃ m, s.heap.Ns X.env.locals m ∧ ∀ (i : Nat) (x : Str) (v : V), X.N[i]? = some x → σ[i]? = some (some v) → Vis X.env.scope x → ∃ u, RelV v u ∧ Look X.env s.heap m x u
 cell : ∀ x c, X.env.cells.lookup x = some c → ∃ v, s.heap.IsCell c v
 free : H X.env.locals = none
 freeC : ∀ x c, X.env.cells.lookup x = some c → H c = none
 pin : ∀ p ∈ X.pn ++ pins, s.heap.get? p.1 = some p.2 ∧ H p.1 = none ∧ p.1 ≠ X.env.locals ∧ p.1 ∉ X.fs ∧ ∀ v, p.2.data ≠ .cell v
 hok : HOk X.prog X.w H s.heap
 len : σ.length = X.N.length
section
variable {X : Cx} {pins : List (Addr × Obj)} {σ : List (Option V)} {H H' : Hp} {s : Shared} {h' : Heap}
theorem Cx.Ok.nofr (ok : X.Ok) {b : Addr} {o : Obj} (e : X.base.get? b = some o) : b ∉ X.fs := fun hb => by
 have := (ok.funs.mem hb).1
 rw [e] at this; cases this
theorem Inv.bs (I : Inv X pins σ H s) : ∀ b o, X.base.get? b = some o → s.heap.get? b = some o ∧ H b = none := fun b o e =>
 ⟨I.base.keep b o (I.ok.bs b o e).1 (I.ok.bs b o e).2 (I.ok.nofr e) (I.ok.noex b o e), I.base.free b o (I.ok.bs b o e).1 (I.ok.bs b o e).2 (I.ok.noex b o e)⟩
theorem Inv.bk (I : Inv X pins σ H s) : ∀ b o, X.base.get? b = some o → s.heap.get? b = some o := fun b o e => (I.bs b o e).1
theorem Inv.mod (I : Inv X pins σ H s) : Mod X.K X.mg X.base := I.ok.mod
theorem Inv.kIn (I : Inv X pins σ H s) : X.K.In s.heap := I.ok.mod.kin.keeps I.bk
theorem Inv.nolimit (I : Inv X pins σ H s) : s.heap.NoLimit := I.ok.mod.nolimit.keeps I.bk
theorem Inv.fr (I : Inv X pins σ H s) : ∃ m, Fr X.base X.env.locals s.heap m :=
 let ⟨m, hn, _⟩ := I.loc
 ⟨m, hn, I.bk, Nat.le_trans I.ok.bsz I.ok.above⟩
theorem Inv.lt (I : Inv X pins σ H s) : X.env.locals < s.heap.objs.size := let ⟨_, hn, _⟩ := I.loc; hn.lt
theorem Inv.sz (I : Inv X pins σ H s) : X.s₀.heap.objs.size ≤ s.heap.objs.size := Nat.le_trans I.ok.above (Nat.le_of_lt I.lt)
theorem Inv.nofs (I : Inv X pins σ H s) {a : Addr} (h : s.heap.objs.size ≤ a) : a ∉ X.fs := fun hb => by
 obtain ⟨_, o, ho, _⟩ := I.ok.funs.mem hb
 exact absurd (Nat.lt_of_lt_of_le (Heap.lt_size ho) (Nat.le_trans I.sz h)) (Nat.lt_irrefl _)
theorem Inv.cne (I : Inv X pins σ H s) : ∀ x c, X.env.cells.lookup x = some c → c ≠ X.env.locals := fun x c e z => by
 obtain ⟨v, o, ho, hd⟩ := I.cell x c e
 obtain ⟨m, ⟨o', es, ep, ho', hd', _⟩, _⟩ := I.loc
 rw [z, ho'] at ho; cases ho; rw [hd'] at hd; cases hd
theorem Inv.funs (I : Inv X pins σ H s) : s.heap.FunFrames X.base X.outer := by
 have all : ∀ (l : List Env), (∀ b ∈ frs l, b ∈ X.fs) → X.s₀.heap.FunFrames X.base l → s.heap.FunFrames X.base l := by
  intro l
  induction l with
  | nil => intro _ _; trivial
  | cons env r ih =>
   intro hs hl
   obtain ⟨hk, ⟨L, o, hf, hn, ho, hd⟩, hr⟩ := hl
   have hL : L ∈ X.fs := hs L (by unfold frs; rw [List.filterMap_cons, hf]; exact List.mem_cons_self)
   obtain ⟨sl, e⟩ := I.base.slot L o ho (I.ok.frf L hL) hL fun z => I.ok.exfs L z hL
   exact ⟨hk, ⟨L, _, hf, hn, e, hd⟩, ih (fun b hb => hs b (by unfold frs; rw [List.filterMap_cons, hf]; exact List.mem_cons_of_mem _ hb)) hr⟩
 exact all X.outer (fun _ hb => hb) I.ok.funs
theorem Inv.stack (I : Inv X pins σ H s) : s.heap.FunFrames X.base X.stack := by
 rcases I.ok.stk with e | ⟨e, hf⟩
 ·rw [e]; exact I.funs
 ·rw [e]
  obtain ⟨m, hn, _⟩ := I.loc
  refine .cons (by rw [I.ok.kind]; decide) hf hn ?_ I.funs
  exact Heap.get?_none_of_le (Nat.le_trans I.ok.bsz I.ok.above)
theorem Inv.stkSub (I : Inv X pins σ H s) : ∀ b ∈ frs X.stack, b ∈ X.env.locals :: X.fs := fun b hb => by
 rcases I.ok.stk with e | ⟨e, hf⟩
 ·rw [e] at hb; exact List.mem_cons_of_mem _ hb
 ·rw [e] at hb
  unfold frs at hb
  rw [List.filterMap_cons, hf] at hb
  exact hb
theorem Inv.stkFree (I : Inv X pins σ H s) : ∀ b ∈ frs X.stack, H b = none := fun b hb => by
 rcases List.mem_cons.mp (I.stkSub b hb) with e | hb
 ·rw [e]; exact I.free
 ·obtain ⟨_, o, ho, _⟩ := I.ok.funs.mem hb
  exact I.base.free b o ho (I.ok.frf b hb) fun z => I.ok.exfs b z hb
theorem Inv.step {g' : Array GenState} {t' : Nat} {d' : Drawn} {ch : List Addr} (I : Inv X pins σ H s)
  (hch : ∀ b ∈ ch, (b ∈ X.ex ∨ X.s₀.heap.objs.size ≤ b) ∧ b ≠ X.env.locals ∧ (∀ x c, X.env.cells.lookup x = some c → c ≠ b) ∧ ∀ p ∈ X.pn ++ pins, p.1 ≠ b)
  (keep : ∀ b o, b ≠ X.env.locals → b ∉ X.fs → b ∉ ch → s.heap.get? b = some o → H b = none → h'.get? b = some o)
  (slot : ∀ b o, b ≠ X.env.locals → b ∈ X.fs → b ∉ ch → s.heap.get? b = some o → H b = none → ∃ sl, h'.get? b = some { o with slots := sl }) (free : ∀ b o, b ∉ ch → s.heap.get? b = some o → H b = none → H' b = none)
  (there : ∀ b o, b ∉ ch → s.heap.get? b = some o → ∃ o', h'.get? b = some o')
  (tups : ∀ b xs, H b = some (.tup xs) → H' b = some (.tup xs)) (frzs : ∀ b o u, H b = some (.frz o u) → H' b = some (.frz o u)) (tbls : ∀ b ps, H b = some (.tbl ps) → ∃ more, H' b = some (.tbl (ps ++ more)))
  (ns : ∀ m, s.heap.Ns X.env.locals m → h'.Ns X.env.locals m) (hok : HOk X.prog X.w H' h') (hg : AllBare g') :
  Inv X pins σ H' { s with heap := h', gens := g', drawn := d', toks := t' } := by
 have neL : ∀ b o, X.s₀.heap.get? b = some o → b ≠ X.env.locals := fun b o e => Nat.ne_of_lt (Nat.lt_of_lt_of_le (Heap.lt_size e) I.ok.above)
 have neC : ∀ b o, X.s₀.heap.get? b = some o → b ∉ X.ex → b ∉ ch := fun b o e hx hb => by
  rcases (hch b hb).1 with z | z
  ·exact hx z
  ·exact absurd (Nat.lt_of_lt_of_le (Heap.lt_size e) z) (Nat.lt_irrefl _)
 have cellK : ∀ x c, X.env.cells.lookup x = some c → ∀ v, s.heap.IsCell c v → h'.IsCell c v := fun x c e v ⟨o, ho, hd⟩ => by
  have nch : c ∉ ch := fun z => (hch c z).2.2.1 x c e rfl
  by_cases hc : c ∈ X.fs
  ·obtain ⟨sl, q⟩ := slot c o (I.cne x c e) hc nch ho (I.freeC x c e)
   exact ⟨_, q, hd⟩
  ·exact ⟨o, keep c o (I.cne x c e) hc nch ho (I.freeC x c e), hd⟩
 refine ⟨I.ok, I.os, hg, ⟨fun b o e n hb hx => ?_, fun b o e n hb hx => ?_, fun b o e n hx => ?_, fun b o e hx => ?_, fun b xs e => tups b xs (I.base.tups b xs e), fun b o xs e => frzs b o xs (I.base.frzs b o xs e), fun b ps e => ?_⟩, ?_, fun x c e => ?_, ?_, fun x c e => ?_, fun p hp => ?_, hok, I.len⟩
 ·exact keep b o (neL b o e) hb (neC b o e hx) (I.base.keep b o e n hb hx) (I.base.free b o e n hx)
 ·obtain ⟨sl, e1⟩ := I.base.slot b o e n hb hx
  obtain ⟨sl', e2⟩ := slot b _ (neL b o e) hb (neC b o e hx) e1 (I.base.free b o e n hx)
  exact ⟨sl', e2⟩
 ·obtain ⟨o', e1⟩ := I.base.there b o e hx
  exact free b o' (neC b o e hx) e1 (I.base.free b o e n hx)
 ·obtain ⟨o', e1⟩ := I.base.there b o e hx
  exact there b o' (neC b o e hx) e1
 ·obtain ⟨m1, e1⟩ := I.base.tbls b ps e
  obtain ⟨m2, e2⟩ := tbls b _ e1
  exact ⟨m1 ++ m2, by rw [e2, Array.append_assoc]⟩
 ·obtain ⟨m, hn, hl⟩ := I.loc
  refine ⟨m, ns m hn, fun i x v e1 e2 e3 => ?_⟩
  obtain ⟨u, r, l⟩ := hl i x v e1 e2 e3
  refine ⟨u, r, ?_⟩
  rcases l with l | ⟨k, c, e, z⟩
  ·exact .inl l
  ·exact .inr ⟨k, c, e, cellK x c e _ z⟩
 ·obtain ⟨v, z⟩ := I.cell x c e
  exact ⟨v, cellK x c e v z⟩
 ·obtain ⟨m, ⟨o, _, _, ho, _⟩, _⟩ := I.loc
  exact free _ o (fun z => (hch _ z).2.1 rfl) ho I.free
 ·obtain ⟨v, o, ho, hd⟩ := I.cell x c e
  exact free c o (fun z => (hch c z).2.2.1 x c e rfl) ho (I.freeC x c e)
 ·obtain ⟨e, n, ne, nf, d⟩ := I.pin p hp
  have nch : p.1 ∉ ch := fun z => (hch p.1 z).2.2.2 p hp rfl
  exact ⟨keep p.1 p.2 ne nf nch e n, free p.1 p.2 nch e n, ne, nf, d⟩
theorem Inv.un {t' : Nat} (I : Inv X pins σ H s) (u : Un X.fs [] H H' s.heap h') (hok : HOk X.prog X.w H' h') : Inv X pins σ H' { s with heap := h', toks := t' } := by
 obtain ⟨m, ⟨o, es, ep, ho, r⟩, _⟩ := id I.loc
 obtain ⟨sl, hL⟩ := u.any ho I.free (by simp)
 exact I.step (g' := s.gens) (d' := s.drawn) (ch := []) (fun _ z => nomatch z) (fun b o _ hb _ e n => u.keep b o e n hb (by simp)) (fun b o _ hb _ e n => u.slot b o e n hb (by simp)) (fun b o _ e n => u.free b o e n (by simp)) (fun b o _ e => u.there b o e (by simp)) u.tups u.frzs u.tbls (fun m' hm => by
  obtain ⟨o', es', ep', ho', r'⟩ := hm
  rw [ho] at ho'; cases ho'
  exact ⟨_, es', ep', hL, r'⟩) hok I.bare
theorem Inv.call {g' : Array GenState} {t' : Nat} {d' : Drawn} {ch : List Addr} (I : Inv X pins σ H s) (u : Un (frs X.stack) ch H H' s.heap h') (hok : HOk X.prog X.w H' h') (hg : AllBare g')
  (hch : ∀ b ∈ ch, (b ∈ X.ex ∨ X.s₀.heap.objs.size ≤ b) ∧ b ≠ X.env.locals ∧ (∀ x c, X.env.cells.lookup x = some c → c ≠ b) ∧ ∀ p ∈ X.pn ++ pins, p.1 ≠ b) :
  Inv X pins σ H' { s with heap := h', gens := g', drawn := d', toks := t' } := by
 obtain ⟨m, ⟨o, es, ep, ho, r⟩, _⟩ := id I.loc
 obtain ⟨sl, hL⟩ := u.any ho I.free fun z => (hch _ z).2.1 rfl
 exact I.step (ch := ch) hch (fun b o hL hb hc e n => u.keep b o e n (fun z => (List.mem_cons.mp (I.stkSub b z)).elim hL hb) hc) (fun b o _ _ hc e n => u.any e n hc) (fun b o hc e n => u.free b o e n hc) (fun b o hc e => u.there b o e hc) u.tups u.frzs u.tbls (fun m' hm => by
  obtain ⟨o', es', ep', ho', r'⟩ := hm
  rw [ho] at ho'; cases ho'
  exact ⟨_, es', ep', hL, r'⟩) hok hg
theorem Inv.turned {t' : Nat} {it : Addr} (I : Inv X pins σ H s) (k : ∀ b o, b ≠ it → s.heap.get? b = some o → h'.get? b = some o) (hn : H it = none) (hL : it ≠ X.env.locals)
  (h1 : it ∈ X.ex ∨ X.s₀.heap.objs.size ≤ it) (h2 : ∀ x c, X.env.cells.lookup x = some c → c ≠ it) (h3 : ∀ p ∈ X.pn ++ pins, p.1 ≠ it) : Inv X pins σ H { s with heap := h', toks := t' } := by
 have nit : ∀ b u, H b = some u → b ≠ it := fun b u e z => by rw [z, hn] at e; cases e
 refine I.step (g' := s.gens) (d' := s.drawn) (ch := [it]) (fun b hb => ?_) (fun b o _ _ hc e _ => k b o (fun z => hc (by simp [z])) e) (fun b o _ _ hc e _ => ⟨o.slots, k b o (fun z => hc (by simp [z])) e⟩) (fun _ _ _ _ n => n)
  (fun b o hc e => ⟨o, k b o (fun z => hc (by simp [z])) e⟩) (fun _ _ e => e) (fun _ _ _ e => e) (fun b ps e => ⟨#[], by rw [e]; simp⟩) (fun m hm => ?_) (fun b u e => ?_) I.bare
 ·have e : b = it := by simpa using hb
  subst e
  exact ⟨h1, hL, h2, h3⟩
 ·obtain ⟨o, es, ep, ho, r⟩ := hm
  exact ⟨o, es, ep, k _ o (Ne.symm hL) ho, r⟩
 ·refine (I.hok b u e).stay (fun c v hc q => k c v ?_ q) (fun _ q => q) fun _ _ q => q
  rcases hc with z | z
  ·rw [z]; exact nit b u e
  ·exact nit c _ z
theorem Inv.tok (I : Inv X pins σ H s) (t : Nat) : Inv X pins σ H { s with toks := t } := I.un (h' := s.heap) (t' := t) Un.refl I.hok
theorem Inv.kept {t' : Nat} (I : Inv X pins σ H s) (k : ∀ b u, s.heap.get? b = some u → h'.get? b = some u) : Inv X pins σ H { s with heap := h', toks := t' } := I.un (Un.kept k) (I.hok.kept k)
theorem Inv.laid {a : Addr} {o : HO} {t' : Nat} (I : Inv X pins σ H s) (k : ∀ b u, s.heap.get? b = some u → h'.get? b = some u) (hp : s.heap.objs.size ≤ a) (new : ObjOk X.prog X.w (upd H a o) h' a o) :
  Inv X pins σ (upd H a o) { s with heap := h', toks := t' } := I.un (Un.laid k hp (I.hok.fresh hp)) (I.hok.laid k hp new)
theorem Inv.write {x e : Addr} {o : HO} {t' : Nat} (I : Inv X pins σ H s) (mu : Mut (H x)) (he : e = x ∨ H e = some (.own x)) (k : ∀ b u, b ≠ e → s.heap.get? b = some u → h'.get? b = some u) (heo : ∃ u, h'.get? e = some u)
  (new : ObjOk X.prog X.w (upd H x o) h' x o) : Inv X pins σ (upd H x o) { s with heap := h', toks := t' } := I.un (Un.write mu he k heo) (I.hok.write mu he k heo new)
theorem Inv.weak {σ' : List (Option V)} (I : Inv X pins σ H s) (hl : σ'.length = σ.length) (w : ∀ (i : Nat) v, σ'[i]? = some (some v) → σ[i]? = some (some v)) : Inv X pins σ' H s :=
 ⟨I.ok, I.os, I.bare, I.base, let ⟨m, hn, hl'⟩ := I.loc; ⟨m, hn, fun i x v e1 e2 e3 => hl' i x v e1 (w i v e2) e3⟩, I.cell, I.free, I.freeC, I.pin, I.hok, hl.trans I.len⟩
theorem Inv.pins_of {pins' : List (Addr × Obj)} (I : Inv X pins σ H s) (h : ∀ p ∈ pins', s.heap.get? p.1 = some p.2 ∧ H p.1 = none ∧ p.1 ≠ X.env.locals ∧ p.1 ∉ X.fs ∧ ∀ v, p.2.data ≠ .cell v) : Inv X pins' σ H s :=
 ⟨I.ok, I.os, I.bare, I.base, I.loc, I.cell, I.free, I.freeC, fun p hp => (List.mem_append.mp hp).elim (fun z => I.pin p (List.mem_append_left _ z)) (h p), I.hok, I.len⟩
theorem nodup_ix {N : List Str} (hN : N.Nodup) {i j : Nat} {x : Str} (a : N[i]? = some x) (b : N[j]? = some x) : i = j := by
 obtain ⟨h1, e1⟩ := List.getElem?_eq_some_iff.mp a
 obtain ⟨h2, e2⟩ := List.getElem?_eq_some_iff.mp b
 exact (List.getElem_inj hN).mp (e1.trans e2.symm)
theorem store_ok2 {M : Model} {A : Around} {E : Value → Shared → Prop} {i : Nat} {x : Str} {v : V} {u : Value} {Q : Unit → Shared → Prop} (I : Inv X pins σ H s) (hN : X.N.Nodup) (hi : X.N[i]? = some x) (hx : Loc X.env.scope x) (r : RelV v u)
  (h : ∀ s', Inv X pins (σ.set i (some v)) H s' → (∃ a, Heap.SameBut a s.heap s'.heap ∧ (a = X.env.locals ∨ X.env.cells.lookup x = some a)) → Q () s') (hf : X.fn x = true ∨ X.env.scope.names.lookup x = some .local := by first | exact .inl rfl | exact .inr rfl | assumption) : wpAny M A (storeName X.env x u) Q E s := by
 obtain ⟨m, hn, hl⟩ := id I.loc
 have hcls : (X.env.scope.kind == .class || (X.env.scope.kind == .module && X.env.locals != X.env.globals)) = false := by rw [I.ok.kind]; rfl
 have hiσ : i < σ.length := by rw [I.len]; exact (List.getElem?_eq_some_iff.mp hi).1
 have cne := I.cne
 have tracked : ∀ {a : Addr} {h' : Heap}, (∃ o, s.heap.get? a = some o ∧ H a = none) → Heap.SameBut a s.heap h' → HOk X.prog X.w H h' := fun {a h'} ha hs b ob e => by
  obtain ⟨_, _, hfree⟩ := ha
  refine (I.hok b ob e).stay (fun c w' hc q => (hs.2 c ?_).trans q) (fun _ q => q) fun _ _ q => q
  rintro rfl
  rcases hc with rfl | hc
  ·rw [hfree] at e; cases e
  ·rw [hfree] at hc; cases hc
 rcases hx with hk | hk
 ·refine wpAny_storeName_local hk hn (fun h' hn' hs => ?_) hcls
  obtain ⟨oL, _, _, hoL, _⟩ := id hn
  refine h _ ⟨I.ok, I.os, I.bare, ⟨fun b o e n hb hx => ?_, fun b o e n hb hx => ?_, I.base.free, fun b o e hx => ?_, I.base.tups, I.base.frzs, I.base.tbls⟩, ⟨_, hn', fun j y v' e1 e2 e3 => ?_⟩, fun y c e => ?_, I.free, I.freeC, fun p hp => ?_, tracked ⟨oL, hoL, I.free⟩ hs, by simpa using I.len⟩ ⟨_, hs, .inl rfl⟩
  ·exact (hs.2 b (Nat.ne_of_lt (Nat.lt_of_lt_of_le (Heap.lt_size e) I.ok.above))).trans (I.base.keep b o e n hb hx)
  ·obtain ⟨sl, e1⟩ := I.base.slot b o e n hb hx
   exact ⟨sl, (hs.2 b (Nat.ne_of_lt (Nat.lt_of_lt_of_le (Heap.lt_size e) I.ok.above))).trans e1⟩
  ·obtain ⟨o', e1⟩ := I.base.there b o e hx
   exact ⟨o', (hs.2 b (Nat.ne_of_lt (Nat.lt_of_lt_of_le (Heap.lt_size e) I.ok.above))).trans e1⟩
  ·by_cases hj : j = i
   ·subst hj
    rw [hi] at e1; cases e1
    rw [List.getElem?_set_self hiσ] at e2
    cases e2
    exact ⟨u, r, .inl ⟨hk, by simp⟩⟩
   ·rw [List.getElem?_set_ne (Ne.symm hj)] at e2
    obtain ⟨u', r', q⟩ := hl j y v' e1 e2 e3
    refine ⟨u', r', ?_⟩
    rcases q with ⟨k, e⟩ | ⟨k, c, e, z⟩
    ·refine .inl ⟨k, ?_⟩
     have : y ≠ x := fun e => hj (nodup_ix hN e1 (e ▸ hi))
     simp [this, e]
    ·exact .inr ⟨k, c, e, z.sameBut hs (cne y c e)⟩
  ·obtain ⟨w', z⟩ := I.cell y c e
   exact ⟨w', z.sameBut hs (cne y c e)⟩
  ·obtain ⟨e, n, ne, nf, d⟩ := I.pin p hp
   exact ⟨(hs.2 p.1 ne).trans e, n, ne, nf, d⟩
 ·have hfn : X.fn x = true := by
   rcases hf with z | z
   ·exact z
   ·rw [z] at hk; cases hk
  obtain ⟨c, hc⟩ := I.ok.has x (.inl hk)
  obtain ⟨w', z⟩ := I.cell x c hc
  refine wpAny_storeName_cell I.ok.kind hk hc z (fun h' hc' hs => ?_)
  obtain ⟨oc, hoc, hocd⟩ := id z
  refine h { s with heap := h' } ⟨I.ok, I.os, I.bare, ⟨fun b o e n hb hx => ?_, fun b o e n hb hx => ?_, I.base.free, fun b o e hx => ?_, I.base.tups, I.base.frzs, I.base.tbls⟩, ⟨m, hn.sameBut hs (Ne.symm (cne x c hc)), fun j y v' e1 e2 e3 => ?_⟩, fun y c' e => ?_, I.free, I.freeC, fun p hp => ?_, tracked ⟨oc, hoc, I.freeC x c hc⟩ hs, by simpa using I.len⟩ ⟨c, hs, .inr hc⟩
  ·exact (hs.2 b (Nat.ne_of_lt (Nat.lt_of_lt_of_le (Heap.lt_size e) (I.ok.cab x c hfn hc)))).trans (I.base.keep b o e n hb hx)
  ·obtain ⟨sl, e1⟩ := I.base.slot b o e n hb hx
   exact ⟨sl, (hs.2 b (Nat.ne_of_lt (Nat.lt_of_lt_of_le (Heap.lt_size e) (I.ok.cab x c hfn hc)))).trans e1⟩
  ·obtain ⟨o', e1⟩ := I.base.there b o e hx
   exact ⟨o', (hs.2 b (Nat.ne_of_lt (Nat.lt_of_lt_of_le (Heap.lt_size e) (I.ok.cab x c hfn hc)))).trans e1⟩
  ·by_cases hj : j = i
   ·subst hj
    rw [hi] at e1; cases e1
    rw [List.getElem?_set_self hiσ] at e2
    cases e2
    exact ⟨u, r, .inr ⟨.inl hk, c, hc, hc'⟩⟩
   ·rw [List.getElem?_set_ne (Ne.symm hj)] at e2
    obtain ⟨u', r', q⟩ := hl j y v' e1 e2 e3
    refine ⟨u', r', ?_⟩
    rcases q with q | ⟨k, c', e, z'⟩
    ·exact .inl q
    ·refine .inr ⟨k, c', e, z'.sameBut hs ?_⟩
     rintro rfl
     exact hj (nodup_ix hN e1 (I.ok.inj _ _ _ e hc ▸ hi))
  ·by_cases hcc : c' = c
   ·subst hcc; exact ⟨_, hc'⟩
   ·obtain ⟨w2, z2⟩ := I.cell y c' e
    exact ⟨w2, z2.sameBut hs hcc⟩
  ·obtain ⟨e, n, ne, nf, d⟩ := I.pin p hp
   refine ⟨(hs.2 p.1 ?_).trans e, n, ne, nf, d⟩
   intro q
   rw [q, hoc] at e
   have q' : oc = p.2 := Option.some.inj e
   exact d w' (by rw [← q']; exact hocd)
theorem store_ok {M : Model} {A : Around} {E : Value → Shared → Prop} {i : Nat} {x : Str} {v : V} {u : Value} {Q : Unit → Shared → Prop} (I : Inv X pins σ H s) (hN : X.N.Nodup) (hi : X.N[i]? = some x) (hx : Loc X.env.scope x) (r : RelV v u)
  (h : ∀ s', Inv X pins (σ.set i (some v)) H s' → Q () s') (hf : X.fn x = true ∨ X.env.scope.names.lookup x = some .local := by first | exact .inl rfl | exact .inr rfl | assumption) : wpAny M A (storeName X.env x u) Q E s :=
 store_ok2 I hN hi hx r (fun s' I' _ => h s' I') hf
theorem Inv.call' {s' : Shared} {ch : List Addr} (I : Inv X pins σ H s) (ho : s'.os = s.os) (u : Un (frs X.stack) ch H H' s.heap s'.heap) (hok : HOk X.prog X.w H' s'.heap) (hg : AllBare s'.gens)
  (hch : ∀ b ∈ ch, (b ∈ X.ex ∨ X.s₀.heap.objs.size ≤ b) ∧ b ≠ X.env.locals ∧ (∀ x c, X.env.cells.lookup x = some c → c ≠ b) ∧ ∀ p ∈ X.pn ++ pins, p.1 ≠ b) : Inv X pins σ H' s' := by
 obtain ⟨h', g', d', t', o'⟩ := s'
 have e : o' = s.os := ho
 subst e
 exact I.call (g' := g') (t' := t') (d' := d') u hok hg hch
end
abbrev XK := Value → Option Addr → Hp → Prop
abbrev St := List (Option V)
abbrev VK := V → Hp → Prop
abbrev TE := St → Hp → VK → Prop
abbrev TT := St → Hp → (Bool → Hp → Prop) → Prop
abbrev TA := St → Hp → (List V → Hp → Prop) → Prop
structure Ends where
 nx : St → Hp → Prop
 rt : VK
 bk : St → Hp → Prop := fun _ _ => False
 ct : St → Hp → Prop := fun _ _ => False
abbrev TS := Ends → St → Hp → Prop
def EP (X : Cx) (pins : List (Addr × Obj)) (σ : St) (Q : VK) (u : Value) (s' : Shared) : Prop := ∃ v H', Inv X pins σ H' s' ∧ RelV v u ∧ Q v H'
def TP (X : Cx) (pins : List (Addr × Obj)) (σ : St) (Q : Bool → Hp → Prop) (b : Bool) (s' : Shared) : Prop := ∃ H', Inv X pins σ H' s' ∧ Q b H'
def AP (X : Cx) (pins : List (Addr × Obj)) (σ : St) (Q : List V → Hp → Prop) (us : List Value) (s' : Shared) : Prop := ∃ vs H', Inv X pins σ H' s' ∧ Vals vs us ∧ Q vs H'
def SP (X : Cx) (pins : List (Addr × Obj)) (D : Ends) (f : Flow) (s' : Shared) : Prop :=
 match f with
 | .next => ∃ σ' H', Inv X pins σ' H' s' ∧ D.nx σ' H'
 | .brk => ∃ σ' H', Inv X pins σ' H' s' ∧ D.bk σ' H'
 | .cont => ∃ σ' H', Inv X pins σ' H' s' ∧ D.ct σ' H'
 | .ret u => ∃ v σ' H', Inv X pins σ' H' s' ∧ RelV v u ∧ D.rt v H'
def PE (X : Cx) (e : Expr) (t : TE) : Prop :=
 ∀ (pins : List (Addr × Obj)) (s : Shared) (σ : St) (H : Hp) (Q : VK), Inv X pins σ H s → t σ H Q → wpAny (model X.prog X.w) X.A (eval e X.env) (EP X pins σ Q) X.xe s
def PT (X : Cx) (e : Expr) (t : TT) : Prop :=
 ∀ (pins : List (Addr × Obj)) (s : Shared) (σ : St) (H : Hp) (Q : Bool → Hp → Prop), Inv X pins σ H s → t σ H Q → wpAny (model X.prog X.w) X.A (isTrue e X.env (eval e X.env)) (TP X pins σ Q) X.xe s
def PW (X : Cx) (e : Expr) (t : TT) : Prop :=
 ∀ (whole : Sem Value) (pins : List (Addr × Obj)) (s : Shared) (σ : St) (H : Hp) (Q : Bool → Hp → Prop), Inv X pins σ H s → t σ H Q → wpAny (model X.prog X.w) X.A (isTrue e X.env whole) (TP X pins σ Q) X.xe s
theorem PW.pt {X : Cx} {e : Expr} {t : TT} (h : PW X e t) : PT X e t := h _
def PA (X : Cx) (es : List Expr) (t : TA) : Prop :=
 ∀ (pos : Pos) (pins : List (Addr × Obj)) (s : Shared) (σ : St) (H : Hp) (Q : List V → Hp → Prop), Inv X pins σ H s → t σ H Q → wpAny (model X.prog X.w) X.A (spliced (backTo pos (starEach es X.env))) (AP X pins σ Q) X.xe s
def PS (X : Cx) (st : Stmt) (t : TS) : Prop :=
 ∀ (pins : List (Addr × Obj)) (s : Shared) (σ : St) (H : Hp) (D : Ends), Inv X pins σ H s → t D σ H → wpAny (model X.prog X.w) X.A (exec st X.env) (SP X pins D) X.xe s
def PSs (X : Cx) (st : List Stmt) (t : TS) : Prop :=
 ∀ (pins : List (Addr × Obj)) (s : Shared) (σ : St) (H : Hp) (D : Ends), Inv X pins σ H s → t D σ H → wpAny (model X.prog X.w) X.A (execs st X.env) (SP X pins D) X.xe s
theorem thn {α : Type} {t : Sem α} {Q Q' : α → Shared → Prop} {M : Model} {A : Around} {E : Value → Shared → Prop} {s : Shared} (h : wpAny M A t Q E s) (hQ : ∀ a s, Q a s → Q' a s) : wpAny M A t Q' E s := wpAny_mono h hQ fun _ _ x => x
end L2
namespace L2
open PySem PySem.Spec PyProof.Rows
section
variable {X : Cx}
def tVar (i : Nat) : TE := fun σ H Q => ∃ v, σ[i]? = some (some v) ∧ Q v H
def tC (v : V) : TE := fun _ H Q => Q v H
theorem pe_var {i : Nat} {x : Str} {pos : Pos} (hN : X.N[i]? = some x) (hv : Vis X.env.scope x) (hd : (x == ("__debug__" : Str)) = false := by decide) (hcd : (x == ("__classdict__" : Str)) = false := by decide) : PE X (.Name x pos) (tVar i) := by
 intro pins s σ H Q I h
 obtain ⟨v, e, h⟩ := h
 obtain ⟨m, hn, hl⟩ := I.loc
 obtain ⟨u, r, l⟩ := hl i x v hN e hv
 have fin : EP X pins σ Q u s := ⟨v, H, I, r, h⟩
 rcases l with ⟨hk, hm⟩ | ⟨hk, c, hc, hcell⟩
 ·exact wpAny_Name (wpAny_loadName_local I.ok.kind hk hn hm fin) hd
 ·rcases hk with hk | hk
  ·exact wpAny_Name (wpAny_loadName_cell I.ok.kind hk hc hcell fin) hd
  ·exact wpAny_Name (wpAny_loadName_free I.ok.kind hk hc hcell fin hcd) hd
theorem pe_int {i j pos} : PE X (.Constant (.int i) j pos) (tC (.int i)) := fun _ _ _ H _ I h => wpAny_Constant_int ⟨.int i, H, I.tok _, ⟨_, rfl⟩, h⟩
theorem pe_bl {b j pos} : PE X (.Constant (.bool b) j pos) (tC (.bl b)) := fun _ _ _ H _ I h => Constant_bool ⟨.bl b, H, I, rfl, h⟩
theorem pe_non {j pos} : PE X (.Constant .none j pos) (tC .non) := fun _ _ _ H _ I h => Constant_none ⟨.non, H, I, rfl, h⟩
theorem pe_str {x j pos} : PE X (.Constant (.str x) j pos) (tC (.str x)) := fun _ _ _ H _ I h => Calls.Constant_str ⟨.str x, H, I.tok _, ⟨_, rfl⟩, h⟩
def Gl (X : Cx) (x : Str) : Prop := X.env.kindOf x = some .globalImplicit
theorem ld_glob {E : Value → Shared → Prop} {pins : List (Addr × Obj)} {s : Shared} {σ : St} {H : Hp} {x : Str} {u : Value} {pos : Pos} {Q : Value → Shared → Prop} (I : Inv X pins σ H s) (hg : Gl X x) (hm : X.mg x = some u) (h : Q u s)
  (hd : (x == ("__debug__" : Str)) = false := by decide) : wpAny (model X.prog X.w) X.A (eval (.Name x pos) X.env) Q E s :=
 Calls.Name_function_global I.ok.kind hg (Calls.loadGlobal_global (by rw [I.ok.glob]; exact I.mod.glob.keeps I.bk) hm h) hd
theorem ld_blt {E : Value → Shared → Prop} {pins : List (Addr × Obj)} {s : Shared} {σ : St} {H : Hp} {x : Str} {u : Value} {pos : Pos} {Q : Value → Shared → Prop} (I : Inv X pins σ H s) (hg : Gl X x) (hm : X.mg x = none) (hv : bootBuiltins x = some u) (h : Q u s)
  (hn : x ≠ "__name__" := by decide) (hd : (x == ("__debug__" : Str)) = false := by decide) : wpAny (model X.prog X.w) X.A (eval (.Name x pos) X.env) Q E s := by
 obtain ⟨mb, h1, h2⟩ := I.mod.blt
 exact Calls.Name_function_global I.ok.kind hg (Calls.loadGlobal_builtin (by rw [I.ok.glob]; exact I.mod.glob.keeps I.bk) hm (by rw [I.ok.blt]; exact h1.keeps I.bk) ((h2 x hn).trans hv) h) hd
theorem pe_glob {x : Str} {v : V} {u : Value} {pos : Pos} (hg : Gl X x) (hm : X.mg x = some u) (r : RelV v u) (hd : (x == ("__debug__" : Str)) = false := by decide) : PE X (.Name x pos) (tC v) :=
 fun _ _ _ H _ I h => ld_glob I hg hm ⟨v, H, I, r, h⟩ hd
theorem pe_bltn {x : Str} {v : V} {u : Value} {pos : Pos} (hg : Gl X x) (hm : X.mg x = none) (hv : bootBuiltins x = some u) (r : RelV v u) (hn : x ≠ "__name__" := by decide) (hd : (x == ("__debug__" : Str)) = false := by decide) : PE X (.Name x pos) (tC v) :=
 fun _ _ _ H _ I h => ld_blt I hg hm hv ⟨v, H, I, r, h⟩ hn hd
variable {a b : Expr} {ta tb : TE} {pos : Pos}
def PC (X : Cx) (op : CmpOp) (a b : Expr) (t : TE) : Prop :=
 ∀ (pins : List (Addr × Obj)) (s : Shared) (σ : St) (H : Hp) (Q : VK), Inv X pins σ H s → t σ H Q →
  wpAny (model X.prog X.w) X.A (eval a X.env) (fun v s₁ => wpAny (model X.prog X.w) X.A (eval b X.env) (fun u s₂ => wpAny (model X.prog X.w) X.A (compareOp op v u) (EP X pins σ Q) X.xe s₂) X.xe s₁) X.xe s
theorem nobehind (b : Expr) {op : CmpOp} (h : op ≠ .In) (h2 : op ≠ .NotIn) : behindInMarks op b = false := by
 have e1 : (op == CmpOp.In) = false := by cases op <;> first | rfl | exact absurd rfl h
 have e2 : (op == CmpOp.NotIn) = false := by cases op <;> first | rfl | exact absurd rfl h2
 cases b <;> simp [behindInMarks, e1, e2]
def tB (t : TE) : TT := fun σ H Q => t σ H fun x H1 => ∃ c, x = .bl c ∧ Q c H1
theorem pt_cmp {op : CmpOp} {t : TE} (h : PC X op a b t) (h1 : behindInMarks op b = false := by first | exact nobehind _ (by decide) (by decide) | rfl) : PT X (.Compare a [op] [b] pos) (tB t) := by
 intro pins s σ H Q I hw
 refine wpAny_isTrue_Compare1 (thn (h pins s σ H _ I hw) fun v s1 h1 => thn h1 fun u s2 h2 => thn h2 fun c s3 ⟨x, H1, I1, r1, q1⟩ => ?_) h1
 obtain ⟨d, rfl, q⟩ := q1
 cases r1
 exact wpAny_truthy_bool ⟨H1, I1, q⟩
theorem pt_val {e : Expr} {t : TE} (h : PE X e t) (he : ∀ whole, isTrue e X.env whole = (do let v ← whole; standAt e.pos; holding [v] (truthy v)) := by intro _; rfl) : PT X e (tB t) := by
 intro pins s σ H Q I hw
 refine isTrue_plain (thn (h pins s σ H _ I hw) fun v s1 ⟨x, H1, I1, r1, q1⟩ => ?_) (he _)
 obtain ⟨d, rfl, q⟩ := q1
 cases r1
 exact wpAny_truthy_bool ⟨H1, I1, q⟩
variable {tA tB' : TT} {rest : List Expr}
def tAnd (t u : TT) : TT := fun σ H Q => t σ H fun c H1 => if c = true then u σ H1 Q else Q false H1
def tOr (t u : TT) : TT := fun σ H Q => t σ H fun c H1 => if c = true then Q true H1 else u σ H1 Q
def tNot (t : TT) : TT := fun σ H Q => t σ H fun c H1 => Q (!c) H1
theorem pw_and1 (ha : PT X a tA) : PW X (.BoolOp .And [a] pos) tA := by
 intro wh pins s σ H Q I h
 refine isTrue_and (thn (ha pins s σ H Q I h) fun c s1 e => ?_)
 cases c with
 | true => exact isTrue_and_nil e
 | false => exact e
theorem pw_or1 (ha : PT X a tA) : PW X (.BoolOp .Or [a] pos) tA := by
 intro wh pins s σ H Q I h
 refine isTrue_or (thn (ha pins s σ H Q I h) fun c s1 e => ?_)
 cases c with
 | false => exact isTrue_or_nil e
 | true => exact e
theorem pw_and (ha : PT X a tA) (hb : PW X (.BoolOp .And (b :: rest) pos) tB') : PW X (.BoolOp .And (a :: b :: rest) pos) (tAnd tA tB') := by
 intro wh pins s σ H Q I h
 refine isTrue_and (thn (ha pins s σ H _ I h) fun c s1 ⟨H1, I1, q1⟩ => ?_)
 cases c with
 | true => exact hb wh pins s1 σ H1 Q I1 q1
 | false => exact ⟨H1, I1, q1⟩
theorem pw_or (ha : PT X a tA) (hb : PW X (.BoolOp .Or (b :: rest) pos) tB') : PW X (.BoolOp .Or (a :: b :: rest) pos) (tOr tA tB') := by
 intro wh pins s σ H Q I h
 refine isTrue_or (thn (ha pins s σ H _ I h) fun c s1 ⟨H1, I1, q1⟩ => ?_)
 cases c with
 | true => exact ⟨H1, I1, q1⟩
 | false => exact hb wh pins s1 σ H1 Q I1 q1
theorem pt_not (ha : PT X a tA) : PT X (.UnaryOp .Not a pos) (tNot tA) := by
 intro pins s σ H Q I h
 exact isTrue_not (ha pins s σ H (fun c H1 => Q (!c) H1) I h)
def tAndV (ta tb : TE) : TE := fun σ H Q => ta σ H fun x H1 => ∃ c, x = .bl c ∧ if c = true then tb σ H1 Q else Q (.bl false) H1
def tNotV (ta : TE) : TE := fun σ H Q => ta σ H fun x H1 => ∃ c, x = .bl c ∧ Q (.bl (!c)) H1
theorem pe_one {op} {t : TE} (h : PE X a t) : PE X (.BoolOp op [a] pos) t := fun pins s σ H Q I hw => BoolOp_one (h pins s σ H Q I hw)
theorem pe_and (ha : PE X a ta) (hb : PE X (.BoolOp .And (b :: rest) pos) tb) : PE X (.BoolOp .And (a :: b :: rest) pos) (tAndV ta tb) := by
 intro pins s σ H Q I h
 refine BoolOp_and (thn (ha pins s σ H _ I h) fun v s1 ⟨x, H1, I1, r1, q1⟩ => ?_)
 obtain ⟨c, rfl, q1⟩ := q1
 cases r1
 refine wpAny_truthy_bool ?_
 cases c with
 | true => exact hb pins s1 σ H1 Q I1 q1
 | false => exact ⟨.bl false, H1, I1, rfl, q1⟩
theorem pe_not (ha : PE X a ta) : PE X (.UnaryOp .Not a pos) (tNotV ta) := by
 intro pins s σ H Q I h
 refine UnaryOp_ (thn (ha pins s σ H _ I h) fun v s1 ⟨x, H1, I1, r1, q1⟩ => ?_)
 obtain ⟨c, rfl, q1⟩ := q1
 cases r1
 exact not_of (wpAny_truthy_bool ⟨.bl (!c), H1, I1, rfl, q1⟩)
def tIf (t : TT) (ta tb : TE) : TE := fun σ H Q => t σ H fun c H1 => if c = true then ta σ H1 Q else tb σ H1 Q
theorem pe_ifExp {c : Expr} (hc : PT X c tA) (ha : PE X a ta) (hb : PE X b tb) : PE X (.IfExp c a b pos) (tIf tA ta tb) := by
 intro pins s σ H Q I h
 refine wpAny_IfExp (thn (hc pins s σ H _ I h) fun d s1 ⟨H1, I1, q1⟩ => ?_)
 cases d with
 | true => exact ha pins s1 σ H1 Q I1 q1
 | false => exact hb pins s1 σ H1 Q I1 q1
end
end L2
namespace L2
open PySem PySem.Spec PyProof.Rows
def SqL (K : PySem.W.Frag) (H : Hp) (a : Addr) (xs : List V) : Prop :=
 Rd H a (.lst xs) ∨
  ∃ (o : Obj) (its : Array Value) (n : Nat), K.lookup a = some o ∧ o.cls = .type "list" ∧ o.dict = none ∧ o.data = .seq its n ∧ its.size ≤ sizeLine ∧ Vals xs its.toList
def SqT (K : PySem.W.Frag) (H : Hp) (a : Addr) (xs : List V) : Prop :=
 Rd H a (.tup xs) ∨
  ∃ (o : Obj) (its : Array Value) (n : Nat), K.lookup a = some o ∧ o.cls = .type "tuple" ∧ o.data = .seq its n ∧ its.size ≤ sizeLine ∧ Vals xs its.toList
def absV : Value → Option V
 | .none => some .non
 | .bool b => some (.bl b)
 | .int i _ => some (.int i)
 | .str x _ => some (.str x)
 | .bytes b _ => some (.byt b)
 | .float b _ => some (.flt b)
 | .ref a => some (.ref a)
 | .type n => some (.ty n)
 | _ => none
theorem RelV.abs {x : V} {u : Value} (r : RelV x u) : absV u = some x := by
 cases x with
 | non => cases r; rfl
 | bl _ => cases r; rfl
 | int _ => obtain ⟨t, rfl⟩ := r; rfl
 | str _ => obtain ⟨t, rfl⟩ := r; rfl
 | byt _ => obtain ⟨t, rfl⟩ := r; rfl
 | flt _ => obtain ⟨t, rfl⟩ := r; rfl
 | ref _ => cases r; rfl
 | ty _ => cases r; rfl
theorem RelV.inj {x y : V} {u : Value} (r : RelV x u) (q : RelV y u) : x = y := Option.some.inj (r.abs.symm.trans q.abs)
theorem Vals.inj : ∀ {xs ys : List V} {us : List Value}, Vals xs us → Vals ys us → xs = ys
 | _, _, _, .nil, .nil => rfl
 | _, _, _, .cons r t, .cons r' t' => by rw [r.inj r', Vals.inj t t']
section
variable {X : Cx} {pins : List (Addr × Obj)} {σ : St} {H : Hp} {s : Shared} {a : Addr} {xs ys : List V}
theorem SqL.of {K : PySem.W.Frag} (h : H a = some (.lst xs)) : SqL K H a xs := .inl (.inl h)
theorem SqT.of {K : PySem.W.Frag} (h : H a = some (.tup xs)) : SqT K H a xs := .inl (.inl h)
theorem Inv.list (I : Inv X pins σ H s) (h : SqL X.K H a xs) : ∃ its : List Value, Vals xs its ∧ PlainL s.heap a its.toArray ∧ xs.length ≤ sizeLine := by
 rcases h with h | ⟨o, its, n, hk, hc, hd, hs, hz, r⟩
 ·obtain ⟨z, its, n, r, e⟩ := h.ok I.hok
  exact ⟨its, r, ⟨_, n, e, rfl, rfl, rfl⟩, z⟩
 ·refine ⟨its.toList, r, ⟨o, n, I.kIn a o hk, hc, hd, by simpa using hs⟩, ?_⟩
  have e := r.length
  simp only [Array.length_toList] at e
  omega
theorem Inv.tuple (I : Inv X pins σ H s) (h : SqT X.K H a xs) : ∃ its : List Value, Vals xs its ∧ IsTup s.heap a its.toArray ∧ xs.length ≤ sizeLine := by
 rcases h with h | ⟨o, its, n, hk, hc, hs, hz, r⟩
 ·obtain ⟨z, its, r, p⟩ := h.ok I.hok
  exact ⟨its, r, p.tup, z⟩
 ·refine ⟨its.toList, r, ⟨o, I.kIn a o hk, hc, n, by simpa using hs⟩, ?_⟩
  have e := r.length
  simp only [Array.length_toList] at e
  omega
theorem Inv.list_inj (I : Inv X pins σ H s) (h : SqL X.K H a xs) (h' : SqL X.K H a ys) : xs = ys := by
 obtain ⟨its, r, ⟨o, n, e, _, _, d⟩, _⟩ := I.list h
 obtain ⟨its', r', ⟨o', n', e', _, _, d'⟩, _⟩ := I.list h'
 rw [e] at e'; cases e'
 rw [d] at d'
 injection d' with d1 _
 have : its = its' := by simpa using congrArg Array.toList d1
 subst this
 exact r.inj r'
theorem Inv.tuple_inj (I : Inv X pins σ H s) (h : SqT X.K H a xs) (h' : SqT X.K H a ys) : xs = ys := by
 obtain ⟨its, r, ⟨o, e, _, n, d⟩, _⟩ := I.tuple h
 obtain ⟨its', r', ⟨o', e', _, n', d'⟩, _⟩ := I.tuple h'
 rw [e] at e'; cases e'
 rw [d] at d'
 injection d' with d1 _
 have : its = its' := by simpa using congrArg Array.toList d1
 subst this
 exact r.inj r'
end
abbrev Cx.wish (X : Cx) (E : Value → Shared → Prop) : Cx := { X with xe := E }
abbrev Cx.nox (X : Cx) : Cx := X.wish fun _ _ => False
theorem Cx.Ok.wish {X : Cx} (ok : X.Ok) (E : Value → Shared → Prop) : (X.wish E).Ok :=
 ⟨ok.mod, ok.kind, ok.glob, ok.blt, ok.above, ok.inj, ok.has, ok.cab, ok.hd, ok.frames, ok.stk, ok.exf, ok.bs, ok.bsz, ok.noex, ok.exfs, ok.funs, ok.frf⟩
theorem Cx.Ok.unwish {X : Cx} {E : Value → Shared → Prop} (ok : (X.wish E).Ok) : X.Ok :=
 ⟨ok.mod, ok.kind, ok.glob, ok.blt, ok.above, ok.inj, ok.has, ok.cab, ok.hd, ok.frames, ok.stk, ok.exf, ok.bs, ok.bsz, ok.noex, ok.exfs, ok.funs, ok.frf⟩
section
variable {X : Cx} {pins : List (Addr × Obj)} {σ : St} {H : Hp} {s : Shared} {E : Value → Shared → Prop}
theorem Inv.wish (I : Inv X pins σ H s) (E : Value → Shared → Prop) : Inv (X.wish E) pins σ H s := ⟨I.ok.wish E, I.os, I.bare, I.base, I.loc, I.cell, I.free, I.freeC, I.pin, I.hok, I.len⟩
theorem Inv.unwish (I : Inv (X.wish E) pins σ H s) : Inv X pins σ H s := ⟨I.ok.unwish, I.os, I.bare, I.base, I.loc, I.cell, I.free, I.freeC, I.pin, I.hok, I.len⟩
theorem SP.unwish {D : Ends} {f : Flow} {s' : Shared} (h : SP (X.wish E) pins D f s') : SP X pins D f s' := by
 cases f with
 | next => obtain ⟨σ', H', I, q⟩ := h; exact ⟨σ', H', I.unwish, q⟩
 | brk => obtain ⟨σ', H', I, q⟩ := h; exact ⟨σ', H', I.unwish, q⟩
 | cont => obtain ⟨σ', H', I, q⟩ := h; exact ⟨σ', H', I.unwish, q⟩
 | ret u => obtain ⟨v, σ', H', I, r, q⟩ := h; exact ⟨v, σ', H', I.unwish, r, q⟩
theorem PE.nox {e : Expr} {t : TE} (h : PE X.nox e t) : PE X e t := fun pins s σ H Q I hw =>
 wpAny_mono (h pins s σ H Q (I.wish _) hw) (fun _ _ ⟨v, H', I', r, q⟩ => ⟨v, H', I'.unwish, r, q⟩) fun _ _ z => False.elim z
theorem PT.nox {e : Expr} {t : TT} (h : PT X.nox e t) : PT X e t := fun pins s σ H Q I hw =>
 wpAny_mono (h pins s σ H Q (I.wish _) hw) (fun _ _ ⟨H', I', q⟩ => ⟨H', I'.unwish, q⟩) fun _ _ z => False.elim z
theorem PSs.nox {st : List Stmt} {t : TS} (h : PSs X.nox st t) : PSs X st t := fun pins s σ H D I hw =>
 wpAny_mono (h pins s σ H D (I.wish _) hw) (fun _ _ q => q.unwish) fun _ _ z => False.elim z
end
section
variable {X : Cx} {st : Stmt} {rest : List Stmt} {t u : TS} {e : Expr} {te : TE} {pos : Pos}
def tNext : TS := fun D σ H => D.nx σ H
def tSeq (t u : TS) : TS := fun D σ H => t { D with nx := u D } σ H
theorem pss_nil : PSs X [] tNext := fun _ _ σ H _ I h => wpAny_execs_nil ⟨σ, H, I, h⟩
theorem pss_cons (h1 : PS X st t) (h2 : PSs X rest u) : PSs X (st :: rest) (tSeq t u) := by
 intro pins s σ H D I h
 refine wpAny_execs_cons (thn (h1 pins s σ H { D with nx := u D } I h) fun f s1 q => ?_)
 cases f with
 | next =>
  obtain ⟨σ', H', I', q⟩ := q
  exact h2 pins s1 σ' H' D I' q
 | ret v => exact q
 | brk => exact q
 | cont => exact q
theorem pss_one (h1 : PS X st t) : PSs X [st] t := by
 intro pins s σ H D I h
 refine wpAny_execs_cons (thn (h1 pins s σ H D I h) fun f s1 q => ?_)
 cases f with
 | next => exact wpAny_execs_nil q
 | ret v => exact q
 | brk => exact q
 | cont => exact q
theorem Inv.quiet {pins : List (Addr × Obj)} {σ : St} {H : Hp} {s : Shared} (I : Inv X pins σ H s) : interactive X.env = false := by simp [interactive, I.ok.kind]
def tDrop (te : TE) : TS := fun D σ H => te σ H fun _ H1 => D.nx σ H1
theorem ps_expr (he : PE X e te) (hs : swapsWith e none pos.line X.env = pure false := by rfl) : PS X (.Expr e pos) (tDrop te) := by
 intro pins s σ H D I h
 exact wpAny_Expr_any (thn (he pins s σ H _ I h) fun v s1 ⟨x, H1, I1, r1, q1⟩ => ⟨σ, H1, I1, q1⟩) I.quiet hs
def tRet (te : TE) : TS := fun D σ H => te σ H D.rt
theorem ps_ret (he : PE X e te) : PS X (.Return (some e) pos) (tRet te) := by
 intro pins s σ H D I h
 exact wpAny_Return_some (thn (he pins s σ H _ I h) fun v s1 ⟨x, H1, I1, r1, q1⟩ => ⟨x, σ, H1, I1, r1, q1⟩)
def tIfS (c : TT) (t u : TS) : TS := fun D σ H => c σ H fun b H1 => if b = true then t D σ H1 else u D σ H1
theorem ps_if {c : Expr} {a b : List Stmt} {tc : TT} (hc : PT X c tc) (ha : PSs X a t) (hb : PSs X b u) : PS X (.If c a b pos) (tIfS tc t u) := by
 intro pins s σ H D I h
 refine wpAny_If (thn (hc pins s σ H _ I h) fun d s1 ⟨H1, I1, q1⟩ => ?_)
 cases d with
 | true => exact ha pins s1 σ H1 D I1 q1
 | false => exact hb pins s1 σ H1 D I1 q1
end
abbrev TG := V → St → Hp → (St → Hp → Prop) → Prop
abbrev TGs := List V → St → Hp → (St → Hp → Prop) → Prop
def PG (X : Cx) (target : Expr) (t : TG) : Prop :=
 ∀ (pins : List (Addr × Obj)) (s : Shared) (σ : St) (H : Hp) (v : V) (u : Value) (Q : St → Hp → Prop), Inv X pins σ H s → RelV v u → t v σ H Q →
  wpAny (model X.prog X.w) X.A (assign target X.env u) (fun _ s' => ∃ σ' H', Inv X pins σ' H' s' ∧ Q σ' H') X.xe s
def PGs (X : Cx) (ts : List Expr) (t : TGs) : Prop :=
 ∀ (pins : List (Addr × Obj)) (s : Shared) (σ : St) (H : Hp) (vs : List V) (us : List Value) (Q : St → Hp → Prop), Inv X pins σ H s → Vals vs us → t vs σ H Q →
  wpAny (model X.prog X.w) X.A (assignInOrder ((assignEach ts X.env).map (·.2)) us) (fun _ s' => ∃ σ' H', Inv X pins σ' H' s' ∧ Q σ' H') X.xe s
abbrev TSet := V → V → V → Hp → (Hp → Prop) → Prop
def PSet (X : Cx) (t : TSet) : Prop :=
 ∀ (pins : List (Addr × Obj)) (s : Shared) (σ : St) (H : Hp) (o i v : V) (ov iv u : Value) (Q : Hp → Prop), Inv X pins σ H s → RelV o ov → RelV i iv → RelV v u → t o i v H Q →
  wpAny (model X.prog X.w) X.A (setItem ov iv u) (fun _ s' => ∃ H', Inv X pins σ H' s' ∧ Q H') X.xe s
abbrev TIp := V → V → Hp → VK → Prop
def PIp (X : Cx) (op : Operator) (t : TIp) : Prop :=
 ∀ (pins : List (Addr × Obj)) (s : Shared) (σ : St) (H : Hp) (x y : V) (v u : Value) (Q : VK), Inv X pins σ H s → RelV x v → RelV y u → t x y H Q →
  wpAny (model X.prog X.w) X.A (inplaceOp op v u) (EP X pins σ Q) X.xe s
section
variable {X : Cx} {pos : Pos}
def gName (i : Nat) : TG := fun v σ H Q => Q (σ.set i (some v)) H
theorem pg_name {i : Nat} {x : Str} (hN : X.N.Nodup) (hi : X.N[i]? = some x) (hx : Loc X.env.scope x) (hf : X.fn x = true ∨ X.env.scope.names.lookup x = some .local := by first | exact .inl rfl | exact .inr rfl | assumption) : PG X (.Name x pos) (gName i) := by
 intro pins s σ H v u Q I r h
 exact wpAny_assign_Name (store_ok I hN hi hx r (fun s' I' => ⟨_, H, I', h⟩) hf)
def gNil : TGs := fun vs σ H Q => vs = [] ∧ Q σ H
def gCons (t : TG) (u : TGs) : TGs := fun vs σ H Q => ∃ v r, vs = v :: r ∧ t v σ H fun σ' H' => u r σ' H' Q
theorem pgs_nil : PGs X [] gNil := by
 intro pins s σ H vs us Q I r h
 obtain ⟨e, h⟩ := h
 subst e
 cases r
 exact assignInOrder_nil ⟨σ, H, I, h⟩
theorem pgs_cons {e : Expr} {es : List Expr} {t : TG} {u : TGs} (h1 : PG X e t) (h2 : PGs X es u)
  (hs : (assignEach (e :: es) X.env).map (·.2) = assign e X.env :: (assignEach es X.env).map (·.2) := by rfl) : PGs X (e :: es) (gCons t u) := by
 intro pins s σ H vs us Q I r h
 obtain ⟨v, vr, e1, h⟩ := h
 subst e1
 cases r with
 | cons r rr =>
  rw [hs]
  refine assignInOrder_cons (thn (h1 pins s σ H _ _ _ I r h) fun _ s1 ⟨σ1, H1, I1, q1⟩ => ?_)
  exact h2 pins s1 σ1 H1 _ _ Q I1 rr q1
def gTup (K : PySem.W.Frag) (n : Nat) (t : TGs) : TG := fun v σ H Q => ∃ a xs, v = .ref a ∧ SqT K H a xs ∧ xs.length = n ∧ t xs σ H Q
theorem pg_tup {es : List Expr} {k : Nat} {t : TGs} {n : Nat} (hc : X.calm = true) (h : PGs X es t)
  (hn : (assignEach es X.env).length = n := by rfl) (hst : (assignEach es X.env).findIdx? (·.1) = none := by rfl) : PG X (.Tuple es k pos) (gTup X.K n t) := by
 intro pins s σ H v u Q I r hw
 obtain ⟨a, xs, e1, hq, hl, hw⟩ := hw
 subst e1
 cases r
 obtain ⟨its, rv, ht, hz⟩ := I.tuple hq
 refine assign_Tuple_tuple (I.ok.hd hc) ht (by simp [hn, ← hl, rv.length]) hst fun h' hx => ?_
 have I1 : Inv X pins σ H { s with heap := h' } := I.kept (t' := s.toks) fun b o e => hx b o (Nat.ne_of_lt (Heap.lt_size e)) e
 exact h pins _ σ H xs _ Q I1 (by simpa using rv) hw
def gSub (to ti : TE) (t : TSet) : TG := fun v σ H Q => to σ H fun o H1 => ti σ H1 fun i H2 => t o i v H2 fun H3 => Q σ H3
theorem pg_sub {o i : Expr} {to ti : TE} {t : TSet} (ho : PE X o to) (hi : PE X i ti) (hs : PSet X t)
  (ha : ∀ v, assign (.Subscript o i pos) X.env v = (do
   let ov ← holding [v] (eval o X.env)
   let iv ← holding [v, ov] (eval i X.env)
   standAt pos
   holding [v, ov, iv] (setItem ov iv v)
   release [v, ov, iv] []) := by intro _; rfl) : PG X (.Subscript o i pos) (gSub to ti t) := by
 intro pins s σ H v u Q I r h
 rw [ha]
 refine wpAny_bind (wpAny_holding (thn (ho pins s σ H _ I h) fun ov s1 ⟨x, H1, I1, r1, q1⟩ => ?_))
 refine wpAny_bind (wpAny_holding (thn (hi pins s1 σ H1 _ I1 q1) fun iv s2 ⟨y, H2, I2, r2, q2⟩ => ?_))
 refine wpAny_bind (wpAny_standAt (wpAny_bind (wpAny_holding (thn (hs pins s2 σ H2 x y v ov iv u _ I2 r1 r2 r q2) fun _ s3 ⟨H3, I3, q3⟩ => ?_))))
 exact wpAny_release ⟨σ, H3, I3, q3⟩
def tAsg (te : TE) (g : TG) : TS := fun D σ H => te σ H fun x H1 => g x σ H1 D.nx
theorem ps_asg {tg e : Expr} {te : TE} {g : TG} (he : PE X e te) (hg : PG X tg g) (hs : swapsWithSole [tg] e pos.line X.env = pure false := by rfl) (hw : swappedStores [tg] e X.env = pure none := by rfl)
  (h1 : (assignEach [tg] X.env).map (·.2) = [assign tg X.env] := by rfl) : PS X (.Assign [tg] e pos) (tAsg te g) := by
 intro pins s σ H D I h
 refine wpAny_Assign_stores (thn (he pins s σ H _ I h) fun v s1 ⟨x, H1, I1, r1, q1⟩ => ?_) hs hw
 rw [h1]
 exact thn (hg pins s1 σ H1 x v _ I1 r1 q1) fun _ s2 q => q
theorem ps_set {i : Nat} {x : Str} {e : Expr} {te : TE} {pos' : Pos} (hN : X.N.Nodup) (hi : X.N[i]? = some x) (hx : Loc X.env.scope x) (he : PE X e te) (hs : swapsWith e (some (.Name x pos')) pos.line X.env = pure false := by rfl) (hf : X.fn x = true ∨ X.env.scope.names.lookup x = some .local := by first | exact .inl rfl | exact .inr rfl | assumption) :
  PS X (.Assign [.Name x pos'] e pos) (tAsg te (gName i)) := by
 intro pins s σ H D I h
 refine wpAny_Assign_Name (thn (he pins s σ H _ I h) fun v s1 ⟨y, H1, I1, r1, q1⟩ => ?_) hs
 exact store_ok I1 hN hi hx r1 (fun s2 I2 => ⟨_, H1, I2, q1⟩) hf
def tAug (i : Nat) (te : TE) (ti : TIp) : TS := fun D σ H => ∃ x, σ[i]? = some (some x) ∧ te σ H fun y H1 => ti x y H1 fun z H2 => D.nx (σ.set i (some z)) H2
theorem ps_aug {i : Nat} {x : Str} {e : Expr} {te : TE} {op : Operator} {ti : TIp} {pos' : Pos} (hN : X.N.Nodup) (hi : X.N[i]? = some x) (hx : Loc X.env.scope x) (he : PE X e te) (ho : PIp X op ti) (hf : X.fn x = true ∨ X.env.scope.names.lookup x = some .local := by first | exact .inl rfl | exact .inr rfl | assumption) :
  PS X (.AugAssign (.Name x pos') op e pos) (tAug i te ti) := by
 intro pins s σ H D I h
 obtain ⟨v, e1, h⟩ := h
 obtain ⟨m, hn, hl⟩ := I.loc
 have vis : Vis X.env.scope x := by rcases hx with k | k; exact .inl k; exact .inr (.inl k)
 obtain ⟨u, r, l⟩ := hl i x v hi e1 vis
 refine wpAny_AugAssign_Name ?_
 have go : wpAny (model X.prog X.w) X.A (eval e X.env) (fun w s₂ => wpAny (model X.prog X.w) X.A (inplaceOp op u w) (fun r s₃ => wpAny (model X.prog X.w) X.A (storeName X.env x r) (fun _ => SP X pins D .next) X.xe s₃) X.xe s₂) X.xe s := by
  refine thn (he pins s σ H _ I h) fun w s1 ⟨y, H1, I1, r1, q1⟩ => ?_
  refine thn (ho pins s1 σ H1 v y u w _ I1 r r1 q1) fun z s2 ⟨zv, H2, I2, r2, q2⟩ => ?_
  exact store_ok I2 hN hi hx r2 (fun s3 I3 => ⟨_, H2, I3, q2⟩) hf
 rcases l with ⟨hk, hm⟩ | ⟨hk, c, hc, hcell⟩
 ·exact wpAny_loadName_local I.ok.kind hk hn hm go
 ·rcases hk with hk | hk
  ·exact wpAny_loadName_cell I.ok.kind hk hc hcell go
  ·rcases hx with k | k
   ·have : X.env.scope.names.lookup x = some .free := hk
    rw [k] at this; cases this
   ·have : X.env.scope.names.lookup x = some .free := hk
    rw [k] at this; cases this
def tAugS (to ti te : TE) (tget : V → V → Hp → VK → Prop) (tip : TIp) (tset : TSet) : TS := fun D σ H => to σ H fun o H1 => ti σ H1 fun i H2 => tget o i H2 fun x H3 => te σ H3 fun y H4 => tip x y H4 fun z H5 => tset o i z H5 fun H6 => D.nx σ H6
def PGet (X : Cx) (t : V → V → Hp → VK → Prop) : Prop :=
 ∀ (pins : List (Addr × Obj)) (s : Shared) (σ : St) (H : Hp) (o i : V) (ov iv : Value) (Q : VK), Inv X pins σ H s → RelV o ov → RelV i iv → t o i H Q →
  wpAny (model X.prog X.w) X.A (getItem ov iv) (EP X pins σ Q) X.xe s
theorem ps_augS {o i e : Expr} {to ti te : TE} {tget : V → V → Hp → VK → Prop} {tip : TIp} {tset : TSet} {op : Operator} {tpos : Pos} (ho : PE X o to) (hi : PE X i ti) (hg : PGet X tget) (he : PE X e te) (hp : PIp X op tip) (hs : PSet X tset)
  (ha : ∀ ov iv new, augStore i ov iv new = (do holding [new, ov, iv] (setItem ov iv new); release [new, ov, iv] []; pure .next) := by intros; rfl) : PS X (.AugAssign (.Subscript o i tpos) op e pos) (tAugS to ti te tget tip tset) := by
 intro pins s σ H D I h
 refine wpAny_AugAssign_SubscriptAny (thn (ho pins s σ H _ I h) fun ov s1 ⟨x1, H1, I1, r1, q1⟩ => ?_) ha
 refine thn (hi pins s1 σ H1 _ I1 q1) fun iv s2 ⟨x2, H2, I2, r2, q2⟩ => ?_
 refine thn (hg pins s2 σ H2 x1 x2 ov iv _ I2 r1 r2 q2) fun old s3 ⟨x3, H3, I3, r3, q3⟩ => ?_
 refine thn (he pins s3 σ H3 _ I3 q3) fun v s4 ⟨x4, H4, I4, r4, q4⟩ => ?_
 refine thn (hp pins s4 σ H4 x3 x4 old v _ I4 r3 r4 q4) fun new s5 ⟨x5, H5, I5, r5, q5⟩ => ?_
 exact thn (hs pins s5 σ H5 x1 x2 x5 ov iv new _ I5 r1 r2 r5 q5) fun _ s6 ⟨H6, I6, q6⟩ => ⟨σ, H6, I6, q6⟩
def ipI (f : Int → Int → Int) : TIp := fun x y H Q => ∃ i j, x = .int i ∧ y = .int j ∧ Q (.int (f i j)) H
theorem ip_add : PIp X .Add (ipI fun i j => i + j) := by
 intro pins s σ H x y v u Q I r1 r2 h
 obtain ⟨i, j, e1, e2, q⟩ := h
 subst e1; subst e2
 obtain ⟨t, rfl⟩ := r1
 obtain ⟨t', rfl⟩ := r2
 exact iadd_int ⟨.int _, H, I.tok _, ⟨_, rfl⟩, q⟩
theorem ip_sub : PIp X .Sub (ipI fun i j => i - j) := by
 intro pins s σ H x y v u Q I r1 r2 h
 obtain ⟨i, j, e1, e2, q⟩ := h
 subst e1; subst e2
 obtain ⟨t, rfl⟩ := r1
 obtain ⟨t', rfl⟩ := r2
 exact isub_int ⟨.int _, H, I.tok _, ⟨_, rfl⟩, q⟩
end
section
variable {X : Cx} {pos : Pos}
def tWhile (c : TT) (tb : TS) : TS := fun D σ H => ∃ W : Nat → St → Hp → Prop, (∃ m, W m σ H) ∧ ∀ m σ H, W m σ H →
 c σ H fun b H1 => if b = true then ∃ N : St → Hp → Prop, (∀ σ' H', N σ' H' → ∃ m', m' < m ∧ W m' σ' H') ∧ tb { D with nx := N, ct := N, bk := D.nx } σ H1 else D.nx σ H1
theorem ps_while {c : Expr} {body : List Stmt} {tc : TT} {tb : TS} (hp : PassesOwn (model X.prog X.w) X.A X.env X.xe) (hc : PT X c tc) (hb : PSs X body tb) : PS X (.While c body [] pos) (tWhile tc tb) := by
 intro pins s σ H D I h
 obtain ⟨W, ⟨m0, w0⟩, turn⟩ := h
 refine wpAny_While (codeAny_whileLoop (fun n s' => ∃ σ' H', Inv X pins σ' H' s' ∧ W n σ' H') ?_ m0 ⟨σ, H, I, w0⟩)
 rintro n s1 ⟨σ1, H1, I1, w1⟩
 refine wpAny_passesOwn hp (thn (hc pins s1 σ1 H1 _ I1 (turn n σ1 H1 w1)) fun b s2 ⟨H2, I2, q2⟩ => ?_)
 cases b with
 | true =>
  obtain ⟨N, hN, q2⟩ := q2
  rw [if_pos rfl]
  refine wpAny_passesOwn hp (thn (hb pins s2 σ1 H2 _ I2 q2) fun f s3 q3 => ?_)
  cases f with
  | next =>
   obtain ⟨σ3, H3, I3, n3⟩ := q3
   obtain ⟨m', hm, w3⟩ := hN σ3 H3 n3
   exact ⟨m', hm, σ3, H3, I3, w3⟩
  | cont =>
   obtain ⟨σ3, H3, I3, n3⟩ := q3
   obtain ⟨m', hm, w3⟩ := hN σ3 H3 n3
   exact ⟨m', hm, σ3, H3, I3, w3⟩
  | brk => exact q3
  | ret v => exact q3
 | false =>
  rw [if_neg Bool.false_ne_true]
  exact wpAny_execs_nil ⟨σ1, H2, I2, q2⟩
end
structure It where
 go : Nat → Hp → Prop
 yld : Nat → Hp → V → Hp → Prop
 stop : Nat → Hp → Prop
def FpOk (X : Cx) (pins : List (Addr × Obj)) (H : Hp) (b : Addr) : Prop :=
 H b = none ∧ b ≠ X.env.locals ∧ b ∉ X.fs ∧ (b ∈ X.ex ∨ X.s₀.heap.objs.size ≤ b) ∧ (∀ x c, X.env.cells.lookup x = some c → c ≠ b) ∧ ∀ p ∈ X.pn ++ pins, p.1 ≠ b
theorem Inv.fpOk {X : Cx} {pins : List (Addr × Obj)} {σ : St} {H H' : Hp} {s : Shared} {b : Addr} (I : Inv X pins σ H s) (hb : s.heap.objs.size ≤ b) (hn : H' b = none) : FpOk X pins H' b := by
 refine ⟨hn, Nat.ne_of_gt (Nat.lt_of_lt_of_le I.lt hb), I.nofs hb, .inr (Nat.le_trans I.sz hb), fun x c e z => ?_, fun p hp z => ?_⟩
 ·obtain ⟨v, q⟩ := I.cell x c e
  exact absurd (Nat.lt_of_lt_of_le q.lt (by rw [z]; exact hb)) (Nat.lt_irrefl _)
 ·exact absurd (Nat.lt_of_lt_of_le (Heap.lt_size (I.pin p hp).1) (by rw [z]; exact hb)) (Nat.lt_irrefl _)
structure Turn (P : Program) (w : World) (K : PySem.W.Frag) (tg : Expr) (J : It) (fp : List Addr) (it : Addr) (tn : Nat → Heap → Prop) : Prop where
 mem : it ∈ fp
 obj : ∀ i h, tn i h → ∀ b ∈ fp, ∃ o, h.get? b = some o ∧ ∀ v, o.data ≠ .cell v
 keep : ∀ i h h', tn i h → (∀ b ∈ fp, ∀ o, h.get? b = some o → h'.get? b = some o) → tn i h'
 item : ∀ (X : Cx), X.prog = P → X.w = w → X.K = K → X.calm = true → ∀ (i : Nat) (pins : List (Addr × Obj)) (s : Shared) (σ : St) (H : Hp) (E : Value → Shared → Prop), Inv X pins σ H s → (∀ b ∈ fp, FpOk X pins H b) → tn i s.heap → J.go i H →
  wpAny (model P w) X.A (pyNext (.ref it)) (fun r s1 => ∃ u, r = some u ∧
   wpAny (model P w) X.A (letOwnedTupleGo tg (.ref it) u) (fun _ s2 => ∃ x H', Inv X pins σ H' s2 ∧ RelV x u ∧ J.yld i H x H' ∧ tn (i + 1) s2.heap ∧ ∀ b ∈ fp, H' b = none) E s1) E s
 done : ∀ (X : Cx), X.prog = P → X.w = w → X.K = K → X.calm = true → ∀ (i : Nat) (pins : List (Addr × Obj)) (s : Shared) (σ : St) (H : Hp) (E : Value → Shared → Prop), Inv X pins σ H s → (∀ b ∈ fp, FpOk X pins H b) → tn i s.heap → J.stop i H →
  wpAny (model P w) X.A (pyNext (.ref it)) (fun r s1 => r = none ∧ Inv X pins σ H s1) E s
 self : ∀ (A : Around) (i : Nat) (s : Shared) (Q : Value → Shared → Prop) (E : Value → Shared → Prop), tn i s.heap → Q (.ref it) s → wpAny (model P w) A (pyIter (.ref it)) Q E s
abbrev TI := St → Hp → (It → Hp → Prop) → Prop
def PIE (X : Cx) (pins : List (Addr × Obj)) (σ : St) (tg : Expr) (R : It → Hp → Prop) (itv : Value) (s2 : Shared) : Prop :=
 ∃ (it : Addr) (fp : List Addr) (tn : Nat → Heap → Prop) (J : It) (H' : Hp), itv = .ref it ∧ Inv X pins σ H' s2 ∧ Turn X.prog X.w X.K tg J fp it tn ∧ tn 0 s2.heap ∧ (∀ b ∈ fp, FpOk X pins H' b) ∧ R J H'
def PI (X : Cx) (tg iter : Expr) (wi : TI) : Prop :=
 ∀ (pins : List (Addr × Obj)) (s : Shared) (σ : St) (H : Hp) (R : It → Hp → Prop), Inv X pins σ H s → wi σ H R →
  wpAny (model X.prog X.w) X.A (eval iter X.env) (fun v s1 => wpAny (model X.prog X.w) X.A (pyIter v) (PIE X pins σ tg R) X.xe s1) X.xe s
theorem go_of {M : Model} {A : Around} {E : Value → Shared → Prop} {s : Shared} {tg : Expr} {it : Addr} {u : Value} {o : Obj} {n : String} {vs : Array Value} {Q : Unit → Shared → Prop} (ho : s.heap.get? it = some o) (hc : o.cls = .type n) (hd : o.data = .fields vs)
  (hn : ["enumerate", "zip", "dict_itemiterator", "dict_reverseitemiterator", "odict_iterator", "itertools.zip_longest", "itertools.pairwise"].contains n = false) (hQ : Q () s) : wpAny M A (letOwnedTupleGo tg (.ref it) u) Q E s := by
 unfold letOwnedTupleGo
 cases tg <;> first
  | exact wpAny_pure hQ
  | (cases u <;> first
    | exact wpAny_pure hQ
    | (refine wpAny_bind (wpAny_load ho ?_)
       rw [hc, hd]
       show wpAny M A (if (["enumerate", "zip", "dict_itemiterator", "dict_reverseitemiterator", "odict_iterator", "itertools.zip_longest", "itertools.pairwise"].contains n && vs[0]? == some (rawInt _)) = true then _ else _) Q E s
       rw [if_neg (by intro h; rw [hn, Bool.false_and] at h; cases h)]
       exact wpAny_pure hQ))
def Itl (K : PySem.W.Frag) (a : Addr) : It :=
 ⟨fun i H => ∃ xs x, SqL K H a xs ∧ xs[i]? = some x, fun i H x H' => H' = H ∧ ∀ xs, SqL K H a xs → xs[i]? = some x, fun i H => ∃ xs, SqL K H a xs ∧ xs.length ≤ i⟩
def Itt (K : PySem.W.Frag) (a : Addr) : It :=
 ⟨fun i H => ∃ xs x, SqT K H a xs ∧ xs[i]? = some x, fun i H x H' => H' = H ∧ ∀ xs, SqT K H a xs → xs[i]? = some x, fun i H => ∃ xs, SqT K H a xs ∧ xs.length ≤ i⟩
def Itr (lo : Int) (n : Nat) : It := ⟨fun i _ => i < n, fun i H x H' => H' = H ∧ x = .int (lo + i), fun i _ => n ≤ i⟩
theorem turn_list {P : Program} {w : World} {K : PySem.W.Frag} {tg : Expr} (a it : Addr) : Turn P w K tg (Itl K a) [it] it (fun i h => h.IsListIter it a i) where
 mem := by simp
 obj := fun i h st b hb => by
  have e : b = it := by simpa using hb
  subst e
  obtain ⟨o, e, c, d⟩ := st
  exact ⟨o, e, fun v z => by rw [d] at z; cases z⟩
 keep := fun i h h' st k => st.at fun o e => k it (by simp) o e
 item := by
  intro X hP hw hK hc i pins s σ H E I hf st hg
  subst hP hw hK
  obtain ⟨xs, x, hq, hx⟩ := hg
  obtain ⟨its, rv, p, hz⟩ := I.list hq
  obtain ⟨u, hu, ru⟩ := rv.get hx
  obtain ⟨f0, f1, f2, f3, f4, f5⟩ := hf it (by simp)
  refine wpAny_pyNext_list_item st p.isList (x := u) (by simpa using hu) fun h' st' sb => ?_
  have I1 : Inv X pins σ H { s with heap := h' } := I.turned (t' := s.toks) (fun b o hb e => (sb.2 b hb).trans e) f0 f1 f3 f4 f5
  obtain ⟨o, e, c, d⟩ := id st'
  exact ⟨u, rfl, go_of (s := { s with heap := h' }) e c d (by decide) ⟨x, H, I1, ru, ⟨rfl, fun ys hy => by rw [I.list_inj hy hq]; exact hx⟩, st', fun b hb => (hf b hb).1⟩⟩
 done := by
  intro X hP hw hK hc i pins s σ H E I hf st hg
  subst hP hw hK
  obtain ⟨xs, hq, hx⟩ := hg
  obtain ⟨its, rv, p, hz⟩ := I.list hq
  obtain ⟨f0, f1, f2, f3, f4, f5⟩ := hf it (by simp)
  have hl := rv.length
  exact wpAny_pyNext_list_end (I.ok.hd hc) st p.isList (by simp; omega) fun h' eb => ⟨rfl, I.turned (t' := s.toks) (fun b o hb e => eb b o hb e) f0 f1 f3 f4 f5⟩
 self := fun _ _ _ _ _ st h => wpAny_pyIter_listiter st h
theorem turn_tuple {P : Program} {w : World} {K : PySem.W.Frag} {tg : Expr} (a it : Addr) : Turn P w K tg (Itt K a) [it] it (fun i h => h.IsTupleIter it a i) where
 mem := by simp
 obj := fun i h st b hb => by
  have e : b = it := by simpa using hb
  subst e
  obtain ⟨o, e, c, d⟩ := st
  exact ⟨o, e, fun v z => by rw [d] at z; cases z⟩
 keep := fun i h h' st k => st.at fun o e => k it (by simp) o e
 item := by
  intro X hP hw hK hc i pins s σ H E I hf st hg
  subst hP hw hK
  obtain ⟨xs, x, hq, hx⟩ := hg
  obtain ⟨its, rv, p, hz⟩ := I.tuple hq
  obtain ⟨u, hu, ru⟩ := rv.get hx
  obtain ⟨f0, f1, f2, f3, f4, f5⟩ := hf it (by simp)
  refine wpAny_pyNext_tuple_item st (show s.heap.IsTuple a its.toArray from p) (x := u) (by simpa using hu) fun h' st' sb => ?_
  have I1 : Inv X pins σ H { s with heap := h' } := I.turned (t' := s.toks) (fun b o hb e => (sb.2 b hb).trans e) f0 f1 f3 f4 f5
  obtain ⟨o, e, c, d⟩ := id st'
  exact ⟨u, rfl, go_of (s := { s with heap := h' }) e c d (by decide) ⟨x, H, I1, ru, ⟨rfl, fun ys hy => by rw [I.tuple_inj hy hq]; exact hx⟩, st', fun b hb => (hf b hb).1⟩⟩
 done := by
  intro X hP hw hK hc i pins s σ H E I hf st hg
  subst hP hw hK
  obtain ⟨xs, hq, hx⟩ := hg
  obtain ⟨its, rv, p, hz⟩ := I.tuple hq
  obtain ⟨f0, f1, f2, f3, f4, f5⟩ := hf it (by simp)
  have hl := rv.length
  exact wpAny_pyNext_tuple_end (I.ok.hd hc) st (show s.heap.IsTuple a its.toArray from p) (by simp; omega) fun h' eb => ⟨rfl, I.turned (t' := s.toks) (fun b o hb e => eb b o hb e) f0 f1 f3 f4 f5⟩
 self := fun _ _ _ _ _ st h => wpAny_pyIter_tupleiter st h
theorem turn_range {P : Program} {w : World} {K : PySem.W.Frag} {tg : Expr} (it : Addr) (lo : Int) (n : Nat) : Turn P w K tg (Itr lo n) [it] it (fun i h => IsRangeIter h it (lo + (i : Nat) * 1) ((n : Int) - (i : Nat)) 1) where
 mem := by simp
 obj := fun i h st b hb => by
  have e : b = it := by simpa using hb
  subst e
  exact ⟨_, st, fun v z => by
   have z' : Data.fields _ = Data.cell v := z
   cases z'⟩
 keep := fun i h h' st k => k it (by simp) _ st
 item := by
  intro X hP hw hK hc i pins s σ H E I hf st hg
  subst hP hw hK
  obtain ⟨f0, f1, f2, f3, f4, f5⟩ := hf it (by simp)
  have W := Walks.range (prog := X.prog) (w := X.w) (I.ok.hd hc) it lo 1 n
  refine W.item i s _ _ hg st fun v h' tk hv st' kk => ?_
  obtain ⟨t, rfl⟩ := hv
  have I1 : Inv X pins σ H { s with heap := h', toks := tk } := I.turned (fun b o hb e => kk b o (by simpa using hb) e) f0 f1 f3 f4 f5
  refine ⟨_, rfl, go_of (s := { s with heap := h', toks := tk }) (n := "range_iterator") st' rfl rfl (by decide) ⟨.int (lo + i), H, I1, ⟨t, ?_⟩, ⟨rfl, rfl⟩, st', fun b hb => (hf b hb).1⟩⟩
  rw [Int.mul_one]
 done := by
  intro X hP hw hK hc i pins s σ H E I hf st hg
  subst hP hw hK
  obtain ⟨f0, f1, f2, f3, f4, f5⟩ := hf it (by simp)
  exact wpAny_pyNext_range_end (I.ok.hd hc) st (by have : n ≤ i := hg; omega) fun h' eb => ⟨rfl, I.turned (t' := s.toks) (fun b o hb e => eb b o hb e) f0 f1 f3 f4 f5⟩
 self := fun _ _ _ _ _ st h => wpAny_pyIter_rangeiter st h
end L2
namespace L2
open PySem PySem.Spec PyProof.Rows
section
variable {X : Cx} {tg : Expr}
def iList (K : PySem.W.Frag) (tl : TE) : TI := fun σ H R => tl σ H fun x H1 => ∃ a, x = .ref a ∧ (∃ xs, SqL K H1 a xs) ∧ R (Itl K a) H1
def iTup (K : PySem.W.Frag) (tl : TE) : TI := fun σ H R => tl σ H fun x H1 => ∃ a, x = .ref a ∧ (∃ xs, SqT K H1 a xs) ∧ R (Itt K a) H1
theorem pi_list {l : Expr} {tl : TE} (hl : PE X l tl) : PI X tg l (iList X.K tl) := by
 intro pins s σ H R I h
 refine thn (hl pins s σ H _ I h) fun v s1 ⟨x, H1, I1, r1, q1⟩ => ?_
 obtain ⟨a, e, ⟨xs, hq⟩, q⟩ := q1
 subst e
 cases r1
 obtain ⟨its, rv, p, hz⟩ := I1.list hq
 refine wpAny_pyIter_list p.isList ?_
 refine ⟨s1.heap.objs.size, [s1.heap.objs.size], _, _, H1, rfl, I1.kept (t' := s1.toks) fun b o e => Heap.get?_push_of_some _ e, turn_list a _, ⟨_, Heap.get?_push_size _ rfl, rfl, rfl⟩, fun b hb => ?_, q⟩
 have e : b = s1.heap.objs.size := by simpa using hb
 subst e
 exact I1.fpOk (Nat.le_refl _) (I1.hok.fresh (Nat.le_refl _))
theorem pi_tup {l : Expr} {tl : TE} (hl : PE X l tl) : PI X tg l (iTup X.K tl) := by
 intro pins s σ H R I h
 refine thn (hl pins s σ H _ I h) fun v s1 ⟨x, H1, I1, r1, q1⟩ => ?_
 obtain ⟨a, e, ⟨xs, hq⟩, q⟩ := q1
 subst e
 cases r1
 obtain ⟨its, rv, p, hz⟩ := I1.tuple hq
 refine wpAny_pyIter_tuple (show s1.heap.IsTuple a its.toArray from p) ?_
 refine ⟨s1.heap.objs.size, [s1.heap.objs.size], _, _, H1, rfl, I1.kept (t' := s1.toks) fun b o e => Heap.get?_push_of_some _ e, turn_tuple a _, ⟨_, Heap.get?_push_size _ rfl, rfl, rfl⟩, fun b hb => ?_, q⟩
 have e : b = s1.heap.objs.size := by simpa using hb
 subst e
 exact I1.fpOk (Nat.le_refl _) (I1.hok.fresh (Nat.le_refl _))
theorem range_it {pins : List (Addr × Obj)} {σ : St} {H : Hp} {s : Shared} {R : It → Hp → Prop} {E : Value → Shared → Prop} {lo hi : Int} {t u v : Tok} {tk : Nat} (I : Inv X pins σ H s) (h1 : -(2 ^ 62) ≤ lo) (h2 : lo < 2 ^ 62) (h3 : -(2 ^ 62) ≤ hi) (h4 : hi < 2 ^ 62)
  (q : R (Itr lo (hi - lo).toNat) H) : wpAny (model X.prog X.w) X.A (pyIter (.ref s.heap.objs.size)) (PIE X pins σ tg R) E { s with heap := s.heap.push { cls := .type "range", data := .fields #[.int lo t, .int hi u, .int 1 v] }, toks := tk } := by
 refine wpAny_pyIter_range (IsRange.new ..) (small_one h1 h2 h3 h4) ?_
 have I1 : Inv X pins σ H { s with heap := s.heap.push { cls := .type "range", data := .fields #[.int lo t, .int hi u, .int 1 v] }, toks := tk } := I.kept fun b o e => Heap.get?_push_of_some _ e
 refine ⟨(s.heap.push { cls := .type "range", data := .fields #[.int lo t, .int hi u, .int 1 v] }).objs.size, [(s.heap.push { cls := .type "range", data := .fields #[.int lo t, .int hi u, .int 1 v] }).objs.size], _, _, H, rfl,
  I1.kept (t' := tk) fun b o e => Heap.get?_push_of_some _ e, turn_range _ lo (hi - lo).toNat, ?_, fun b hb => ?_, q⟩
 ·have e1 : lo + ((0 : Nat) : Int) * 1 = lo := by simp
  have e2 : (((hi - lo).toNat : Nat) : Int) - ((0 : Nat) : Int) = Builtin.Range.rangeSize lo hi 1 := by rw [rangeSize_one]; split <;> omega
  show IsRangeIter _ _ (lo + ((0 : Nat) : Int) * 1) ((((hi - lo).toNat : Nat) : Int) - ((0 : Nat) : Int)) 1
  rw [e1, e2]
  exact Heap.get?_push_size _ rfl
 ·have e : b = (s.heap.push { cls := .type "range", data := .fields #[.int lo t, .int hi u, .int 1 v] }).objs.size := by simpa using hb
  subst e
  exact I1.fpOk (Nat.le_refl _) (I1.hok.fresh (Nat.le_refl _))
def iRng1 (ta : TA) : TI := fun σ H R => ta σ H fun vs H1 => ∃ j : Int, vs = [.int j] ∧ -(2 ^ 62) ≤ j ∧ j < 2 ^ 62 ∧ R (Itr 0 j.toNat) H1
theorem pi_range1 {a : Expr} {ta : TA} {p pos : Pos} (hg : Gl X "range") (hm : X.mg "range" = none) (ha : PA X [a] ta) (hs : starEach [a] X.env = [(false, eval a X.env)] := by rfl) : PI X tg (.Call (.Name "range" p) [a] [] pos) (iRng1 ta) := by
 intro pins s σ H R I h
 refine Call_ (ld_blt I hg hm boot_range (PyProof.Rows.callWith_type1 (thn (ha pos pins s σ H _ I h) fun us s1 ⟨vs, H1, I1, r1, q1⟩ => ?_) hs rfl))
 obtain ⟨j, e, q1, q2, q⟩ := q1
 subst e
 cases r1 with
 | cons r rr =>
  cases rr
  obtain ⟨t, rfl⟩ := r
  exact call_range_1 (range_it I1 (by omega) (by omega) q1 q2 (by simpa using q))
def tFor (wi : TI) (g : TG) (tb : TS) : TS := fun D σ H => wi σ H fun J H1 => ∃ W : Nat → Nat → St → Hp → Prop, (∃ m, W 0 m σ H1) ∧ ∀ i m σ H, W i m σ H →
 (J.stop i H ∧ D.nx σ H) ∨ (J.go i H ∧ ∃ N : St → Hp → Prop, (∀ σ' H', N σ' H' → ∃ m', m' < m ∧ W (i + 1) m' σ' H') ∧ ∀ x H', J.yld i H x H' → g x σ H' fun σ2 H2 => tb { D with nx := N, ct := N, bk := D.nx } σ2 H2)
def pinsAt (fp : List Addr) (h : Heap) : List (Addr × Obj) := fp.filterMap fun b => (h.get? b).map fun o => (b, o)
theorem mem_pinsAt {fp : List Addr} {h : Heap} {b : Addr} {o : Obj} (hb : b ∈ fp) (e : h.get? b = some o) : (b, o) ∈ pinsAt fp h := List.mem_filterMap.mpr ⟨b, hb, by rw [e]; rfl⟩
theorem of_pinsAt {fp : List Addr} {h : Heap} {p : Addr × Obj} (hp : p ∈ pinsAt fp h) : p.1 ∈ fp ∧ h.get? p.1 = some p.2 := by
 obtain ⟨b, hb, e⟩ := List.mem_filterMap.mp hp
 cases q : h.get? b with
 | none => rw [q] at e; cases e
 | some o =>
  rw [q] at e
  have e' : (b, o) = p := Option.some.inj e
  subst e'
  exact ⟨hb, q⟩
theorem Inv.pinned {pins : List (Addr × Obj)} {σ : St} {H : Hp} {s : Shared} {fp : List Addr} (I : Inv X pins σ H s) (hf : ∀ b ∈ fp, FpOk X pins H b) (ho : ∀ b ∈ fp, ∃ o, s.heap.get? b = some o ∧ ∀ v, o.data ≠ .cell v) : Inv X (pins ++ pinsAt fp s.heap) σ H s :=
 I.pins_of fun p hp => (List.mem_append.mp hp).elim (fun z => I.pin p (List.mem_append_right _ z)) fun z => by
  obtain ⟨hb, e⟩ := of_pinsAt z
  obtain ⟨f0, f1, f2, _⟩ := hf p.1 hb
  obtain ⟨o, e', d⟩ := ho p.1 hb
  rw [e] at e'; cases e'
  exact ⟨e, f0, f1, f2, d⟩
theorem Inv.unpinned {pins pl : List (Addr × Obj)} {σ : St} {H : Hp} {s : Shared} (I : Inv X (pins ++ pl) σ H s) : Inv X pins σ H s := I.pins_of fun p hp => I.pin p (List.mem_append_right _ (List.mem_append_left _ hp))
theorem ps_for {iter : Expr} {body : List Stmt} {wi : TI} {g : TG} {tb : TS} {pos : Pos} (hp : PassesOwn (model X.prog X.w) X.A X.env X.xe) (hc : X.calm = true) (hi : PI X tg iter wi) (hg : PG X tg g) (hb : PSs X body tb)
  (hs : ∀ x, foldedSetIterable iter X.env x = pure x := by intro _; rfl) : PS X (.For tg iter body [] pos) (tFor wi g tb) := by
 intro pins s σ H D I h
 refine wpAny_For (thn (hi pins s σ H _ I h) fun v s1 h1 => thn h1 fun itv s2 h2 => ?_) hs
 obtain ⟨it, fp, tn, J, H2, e, I2, T, st2, f2, W, ⟨m0, w0⟩, turn⟩ := h2
 subst e
 have stat : ∀ {H' : Hp}, (∀ b ∈ fp, H' b = none) → ∀ b ∈ fp, FpOk X pins H' b := fun hn b hb => ⟨hn b hb, (f2 b hb).2⟩
 refine codeAny_forLoop_any (fun n s' => ∃ i σ' H', Inv X pins σ' H' s' ∧ tn i s'.heap ∧ (∀ b ∈ fp, H' b = none) ∧ W i n σ' H') ?_ m0 ⟨0, σ, H2, I2, st2, fun b hb => (f2 b hb).1, w0⟩
 rintro n s3 ⟨i, σ3, H3, I3, st3, fr3, w3⟩
 rcases turn i n σ3 H3 w3 with ⟨stop, qn⟩ | ⟨go, N, hN, step⟩
 ·refine wpAny_passesOwn hp (thn (T.done X rfl rfl rfl hc i pins s3 σ3 H3 X.xe I3 (stat fr3) st3 stop) fun r s4 ⟨hr, I4⟩ => ?_)
  subst hr
  exact wpAny_execs_nil ⟨σ3, H3, I4, qn⟩
 ·refine wpAny_passesOwn hp (thn (T.item X rfl rfl rfl hc i pins s3 σ3 H3 X.xe I3 (stat fr3) st3 go) fun r s4 ⟨u, hr, h4⟩ => ?_)
  subst hr
  refine wpAny_passesOwn hp (thn h4 fun _ s5 ⟨x, H5, I5, r5, y5, st5, fr5⟩ => ?_)
  have I5' := I5.pinned (stat fr5) (T.obj _ _ st5)
  refine wpAny_passesOwn hp (thn (hg _ s5 σ3 H5 x u _ I5' r5 (step x H5 y5)) fun _ s6 ⟨σ6, H6, I6, q6⟩ => ?_)
  refine wpAny_passesOwn hp (thn (hb _ s6 σ6 H6 _ I6 q6) fun f s7 q7 => ?_)
  have again : ∀ {σ7 : St} {H7 : Hp}, Inv X (pins ++ pinsAt fp s5.heap) σ7 H7 s7 → N σ7 H7 → ∃ m, m < n ∧ ∃ i σ' H', Inv X pins σ' H' s7 ∧ tn i s7.heap ∧ (∀ b ∈ fp, H' b = none) ∧ W i m σ' H' := fun {σ7 H7} I7 n7 => by
   obtain ⟨m', hm, w7⟩ := hN σ7 H7 n7
   refine ⟨m', hm, i + 1, σ7, H7, I7.unpinned, T.keep _ _ _ st5 fun b hb o e => (I7.pin (b, o) (List.mem_append_right _ (List.mem_append_right _ (mem_pinsAt hb e)))).1, fun b hb => ?_, w7⟩
   obtain ⟨o, e, d⟩ := T.obj _ _ st5 b hb
   exact (I7.pin (b, o) (List.mem_append_right _ (List.mem_append_right _ (mem_pinsAt hb e)))).2.1
  cases f with
  | next => obtain ⟨σ7, H7, I7, n7⟩ := q7; exact again I7 n7
  | cont => obtain ⟨σ7, H7, I7, n7⟩ := q7; exact again I7 n7
  | brk => obtain ⟨σ7, H7, I7, q7⟩ := q7; exact ⟨σ7, H7, I7.unpinned, q7⟩
  | ret v => obtain ⟨x7, σ7, H7, I7, r7, q7⟩ := q7; exact ⟨x7, σ7, H7, I7.unpinned, r7, q7⟩
end
theorem for_list {K : PySem.W.Frag} {a : Addr} {xs : List V} {g : TG} {tb : TS} {D : Ends} {σ : St} {H : Hp} (Pv : Nat → St → Hp → Prop) (h0 : Pv 0 σ H) (hl : ∀ i σ H, i ≤ xs.length → Pv i σ H → SqL K H a xs)
  (hs : ∀ i x σ H, xs[i]? = some x → Pv i σ H → g x σ H fun σ2 H2 => tb { D with nx := Pv (i + 1), ct := Pv (i + 1), bk := D.nx } σ2 H2) (hd : ∀ σ H, Pv xs.length σ H → D.nx σ H) :
  ∃ W : Nat → Nat → St → Hp → Prop, (∃ m, W 0 m σ H) ∧ ∀ i m σ H, W i m σ H →
   ((Itl K a).stop i H ∧ D.nx σ H) ∨ ((Itl K a).go i H ∧ ∃ N : St → Hp → Prop, (∀ σ' H', N σ' H' → ∃ m', m' < m ∧ W (i + 1) m' σ' H') ∧ ∀ x H', (Itl K a).yld i H x H' → g x σ H' fun σ2 H2 => tb { D with nx := N, ct := N, bk := D.nx } σ2 H2) := by
 refine ⟨fun i m σ H => m = xs.length - i ∧ i ≤ xs.length ∧ Pv i σ H, ⟨xs.length, by simp, Nat.zero_le _, h0⟩, ?_⟩
 rintro i m σ H ⟨rfl, hi, p⟩
 have q := hl i σ H hi p
 by_cases hlt : i < xs.length
 ·refine .inr ⟨⟨xs, xs[i], q, by simp [hlt]⟩, Pv (i + 1), fun σ' H' p' => ⟨xs.length - (i + 1), by omega, rfl, hlt, p'⟩, fun x H' y => ?_⟩
  obtain ⟨e, y⟩ := y
  subst e
  exact hs i x σ _ (y xs q) p
 ·have e : i = xs.length := by omega
  subst e
  exact .inl ⟨⟨xs, q, Nat.le_refl _⟩, hd σ H p⟩
theorem for_tup {K : PySem.W.Frag} {a : Addr} {xs : List V} {g : TG} {tb : TS} {D : Ends} {σ : St} {H : Hp} (Pv : Nat → St → Hp → Prop) (h0 : Pv 0 σ H) (hl : ∀ i σ H, i ≤ xs.length → Pv i σ H → SqT K H a xs)
  (hs : ∀ i x σ H, xs[i]? = some x → Pv i σ H → g x σ H fun σ2 H2 => tb { D with nx := Pv (i + 1), ct := Pv (i + 1), bk := D.nx } σ2 H2) (hd : ∀ σ H, Pv xs.length σ H → D.nx σ H) :
  ∃ W : Nat → Nat → St → Hp → Prop, (∃ m, W 0 m σ H) ∧ ∀ i m σ H, W i m σ H →
   ((Itt K a).stop i H ∧ D.nx σ H) ∨ ((Itt K a).go i H ∧ ∃ N : St → Hp → Prop, (∀ σ' H', N σ' H' → ∃ m', m' < m ∧ W (i + 1) m' σ' H') ∧ ∀ x H', (Itt K a).yld i H x H' → g x σ H' fun σ2 H2 => tb { D with nx := N, ct := N, bk := D.nx } σ2 H2) := by
 refine ⟨fun i m σ H => m = xs.length - i ∧ i ≤ xs.length ∧ Pv i σ H, ⟨xs.length, by simp, Nat.zero_le _, h0⟩, ?_⟩
 rintro i m σ H ⟨rfl, hi, p⟩
 have q := hl i σ H hi p
 by_cases hlt : i < xs.length
 ·refine .inr ⟨⟨xs, xs[i], q, by simp [hlt]⟩, Pv (i + 1), fun σ' H' p' => ⟨xs.length - (i + 1), by omega, rfl, hlt, p'⟩, fun x H' y => ?_⟩
  obtain ⟨e, y⟩ := y
  subst e
  exact hs i x σ _ (y xs q) p
 ·have e : i = xs.length := by omega
  subst e
  exact .inl ⟨⟨xs, q, Nat.le_refl _⟩, hd σ H p⟩
theorem for_range {lo : Int} {n : Nat} {g : TG} {tb : TS} {D : Ends} {σ : St} {H : Hp} (Pv : Nat → St → Hp → Prop) (h0 : Pv 0 σ H)
  (hs : ∀ i σ H, i < n → Pv i σ H → g (.int (lo + i)) σ H fun σ2 H2 => tb { D with nx := Pv (i + 1), ct := Pv (i + 1), bk := D.nx } σ2 H2) (hd : ∀ σ H, Pv n σ H → D.nx σ H) :
  ∃ W : Nat → Nat → St → Hp → Prop, (∃ m, W 0 m σ H) ∧ ∀ i m σ H, W i m σ H →
   ((Itr lo n).stop i H ∧ D.nx σ H) ∨ ((Itr lo n).go i H ∧ ∃ N : St → Hp → Prop, (∀ σ' H', N σ' H' → ∃ m', m' < m ∧ W (i + 1) m' σ' H') ∧ ∀ x H', (Itr lo n).yld i H x H' → g x σ H' fun σ2 H2 => tb { D with nx := N, ct := N, bk := D.nx } σ2 H2) := by
 refine ⟨fun i m σ H => m = n - i ∧ i ≤ n ∧ Pv i σ H, ⟨n, by simp, Nat.zero_le _, h0⟩, ?_⟩
 rintro i m σ H ⟨rfl, hi, p⟩
 by_cases hlt : i < n
 ·refine .inr ⟨hlt, Pv (i + 1), fun σ' H' p' => ⟨n - (i + 1), by omega, rfl, hlt, p'⟩, fun x H' y => ?_⟩
  obtain ⟨e, y⟩ := y
  subst e y
  exact hs i σ _ hlt p
 ·have e : i = n := by omega
  subst e
  exact .inl ⟨Nat.le_refl _, hd σ H p⟩
end L2
namespace L2
open PySem PySem.Spec PyProof.Rows
abbrev R2 := V → V → Hp → VK → Prop
def OpR (X : Cx) (f : Value → Value → Sem Value) (r : R2) : Prop :=
 ∀ (pins : List (Addr × Obj)) (s : Shared) (σ : St) (H : Hp) (x y : V) (v u : Value) (Q : VK), Inv X pins σ H s → RelV x v → RelV y u → r x y H Q →
  wpAny (model X.prog X.w) X.A (f v u) (EP X pins σ Q) X.xe s
def UnR (X : Cx) (f : Value → Sem Value) (r : V → Hp → VK → Prop) : Prop :=
 ∀ (pins : List (Addr × Obj)) (s : Shared) (σ : St) (H : Hp) (x : V) (v : Value) (Q : VK), Inv X pins σ H s → RelV x v → r x H Q →
  wpAny (model X.prog X.w) X.A (f v) (EP X pins σ Q) X.xe s
def CallR (X : Cx) (f : Value) (r : List V → Hp → VK → Prop) : Prop :=
 ∀ (pins : List (Addr × Obj)) (s : Shared) (σ : St) (H : Hp) (xs : List V) (us : List Value) (Q : VK), Inv X pins σ H s → Vals xs us → r xs H Q →
  wpAny (model X.prog X.w) X.A (call f us) (EP X pins σ Q) X.xe s
def tOp (r : R2) (ta tb : TE) : TE := fun σ H Q => ta σ H fun x H1 => tb σ H1 fun y H2 => r x y H2 Q
def tUn (r : V → Hp → VK → Prop) (ta : TE) : TE := fun σ H Q => ta σ H fun x H1 => r x H1 Q
def rI (C : Int → Int → Prop) (g : Int → Int → V) : R2 := fun x y H Q => ∃ i j, x = .int i ∧ y = .int j ∧ C i j ∧ Q (g i j) H
def rI0 (g : Int → Int → V) : R2 := fun x y H Q => ∃ i j, x = .int i ∧ y = .int j ∧ Q (g i j) H
def rU (g : Int → V) : V → Hp → VK → Prop := fun x H Q => ∃ i, x = .int i ∧ Q (g i) H
section
variable {X : Cx} {a b c : Expr} {ta tb tc : TE} {pos : Pos}
theorem binT (ha : PE X a ta) (hb : PE X b tb) {pins : List (Addr × Obj)} {s : Shared} {σ : St} {H : Hp} {R : V → V → Hp → Prop} (I : Inv X pins σ H s)
  (h : ta σ H fun x H1 => tb σ H1 fun y H2 => R x y H2) {Q : Value → Shared → Prop} {f : Value → Value → Sem Value}
  (hf : ∀ v u s2 x y H2, Inv X pins σ H2 s2 → RelV x v → RelV y u → R x y H2 → wpAny (model X.prog X.w) X.A (f v u) Q X.xe s2) :
  wpAny (model X.prog X.w) X.A (eval a X.env) (fun v s₁ => wpAny (model X.prog X.w) X.A (eval b X.env) (fun u s₂ => wpAny (model X.prog X.w) X.A (f v u) Q X.xe s₂) X.xe s₁) X.xe s := by
 refine thn (ha pins s σ H _ I h) fun v s1 ⟨x, H1, I1, r1, q1⟩ => ?_
 refine thn (hb pins s1 σ H1 _ I1 q1) fun u s2 ⟨y, H2, I2, r2, q2⟩ => ?_
 exact hf v u s2 x y H2 I2 r1 r2 q2
theorem pe_op {op : Operator} {r : R2} (ho : OpR X (binaryOp op) r) (ha : PE X a ta) (hb : PE X b tb) : PE X (.BinOp a op b pos) (tOp r ta tb) := by
 intro pins s σ H Q I h
 exact wpAny_BinOp (binT ha hb I h fun v u s2 x y H2 I2 rx ry q => ho pins s2 σ H2 x y v u Q I2 rx ry q)
theorem pe_un {op : UnaryOp} {r : V → Hp → VK → Prop} (ho : UnR X (unaryOp op) r) (ha : PE X a ta) : PE X (.UnaryOp op a pos) (tUn r ta) := by
 intro pins s σ H Q I h
 exact UnaryOp_ (thn (ha pins s σ H _ I h) fun v s1 ⟨x, H1, I1, r1, q1⟩ => ho pins s1 σ H1 x v Q I1 r1 q1)
theorem opI {f : Value → Value → Sem Value} {C : Int → Int → Prop} {g : Int → Int → Int}
  (rule : ∀ (i j : Int) (t u : Tok) (s : Shared) (Q : Value → Shared → Prop) (E : Value → Shared → Prop), C i j → Q (.int (g i j) s.toks) { s with toks := s.toks + 1 } → wpAny (model X.prog X.w) X.A (f (.int i t) (.int j u)) Q E s) :
  OpR X f (rI C fun i j => .int (g i j)) := by
 intro pins s σ H x y v u Q I rx ry h
 obtain ⟨i, j, rfl, rfl, hc, q⟩ := h
 obtain ⟨t, rfl⟩ := rx
 obtain ⟨t', rfl⟩ := ry
 exact rule i j t t' s _ _ hc ⟨.int (g i j), H, I.tok _, ⟨_, rfl⟩, q⟩
theorem opI0 {f : Value → Value → Sem Value} {g : Int → Int → Int}
  (rule : ∀ (i j : Int) (t u : Tok) (s : Shared) (Q : Value → Shared → Prop) (E : Value → Shared → Prop), Q (.int (g i j) s.toks) { s with toks := s.toks + 1 } → wpAny (model X.prog X.w) X.A (f (.int i t) (.int j u)) Q E s) :
  OpR X f (rI0 fun i j => .int (g i j)) := by
 intro pins s σ H x y v u Q I rx ry h
 obtain ⟨i, j, rfl, rfl, q⟩ := h
 obtain ⟨t, rfl⟩ := rx
 obtain ⟨t', rfl⟩ := ry
 exact rule i j t t' s _ _ ⟨.int (g i j), H, I.tok _, ⟨_, rfl⟩, q⟩
theorem opB0 {f : Value → Value → Sem Value} {g : Int → Int → Bool}
  (rule : ∀ (i j : Int) (t u : Tok) (s : Shared) (Q : Value → Shared → Prop) (E : Value → Shared → Prop), Q (.bool (g i j)) s → wpAny (model X.prog X.w) X.A (f (.int i t) (.int j u)) Q E s) :
  OpR X f (rI0 fun i j => .bl (g i j)) := by
 intro pins s σ H x y v u Q I rx ry h
 obtain ⟨i, j, rfl, rfl, q⟩ := h
 obtain ⟨t, rfl⟩ := rx
 obtain ⟨t', rfl⟩ := ry
 exact rule i j t t' s _ _ ⟨.bl (g i j), H, I, rfl, q⟩
def CDiv (i j : Int) : Prop := 0 < j ∧ j < 1073741824
def CPow (i j : Int) : Prop := 0 ≤ j ∧ j ≤ 1000000 ∧ i.natAbs < 2 ^ 64
def CMul (i j : Int) : Prop := (-(2 ^ 64) < i ∧ i < 2 ^ 64) ∨ (-(2 ^ 64) < j ∧ j < 2 ^ 64)
theorem CMul.ok {i j : Int} (h : CMul i j) : IntMulOk i j := by
 rcases h with ⟨h1, h2⟩ | ⟨h1, h2⟩
 ·exact .of_left (intBits_le_64 h1 h2)
 ·exact .of_right (intBits_le_64 h1 h2)
theorem op_add : OpR X (binaryOp .Add) (rI0 fun i j => .int (i + j)) := opI0 fun _ _ _ _ _ _ _ q => add_int q
theorem op_sub : OpR X (binaryOp .Sub) (rI0 fun i j => .int (i - j)) := opI0 fun _ _ _ _ _ _ _ q => sub_int q
theorem op_mul : OpR X (binaryOp .Mult) (rI CMul fun i j => .int (i * j)) := opI fun _ _ _ _ _ _ _ hc q => mul_int q hc.ok
theorem op_fdiv : OpR X (binaryOp .FloorDiv) (rI CDiv fun i j => .int (i / j)) := opI fun i j _ _ _ _ _ hc q => by
 have h1 : (0 : Int) < j := hc.1
 have h2 : j < 1073741824 := hc.2
 exact floordiv_int (by omega) (by rw [Int.fdiv_eq_ediv_of_nonneg i (by omega)]; exact q) (.inl (PyProof.noPylong_small (by omega)))
theorem op_mod : OpR X (binaryOp .Mod) (rI (fun _ j => 0 < j) fun i j => .int (i % j)) := opI fun i j _ _ _ _ _ hc q => by
 have h1 : (0 : Int) < j := hc
 exact mod_int' (by omega) (by rw [Int.fmod_eq_emod_of_nonneg i (by omega)]; exact q)
theorem op_pow : OpR X (binaryOp .Pow) (rI CPow fun i j => .int (i ^ j.toNat)) := opI fun _ _ _ _ _ _ _ hc q => pow_int_small hc.1 hc.2.1 hc.2.2 q
theorem unI {f : Value → Sem Value} {g : Int → Int}
  (rule : ∀ (i : Int) (t : Tok) (s : Shared) (Q : Value → Shared → Prop) (E : Value → Shared → Prop), Q (.int (g i) s.toks) { s with toks := s.toks + 1 } → wpAny (model X.prog X.w) X.A (f (.int i t)) Q E s) :
  UnR X f (rU fun i => .int (g i)) := by
 intro pins s σ H x v Q I rx h
 obtain ⟨i, rfl, q⟩ := h
 obtain ⟨t, rfl⟩ := rx
 exact rule i t s _ _ ⟨.int (g i), H, I.tok _, ⟨_, rfl⟩, q⟩
theorem un_neg : UnR X (unaryOp .USub) (rU fun i => .int (-i)) := unI fun _ _ _ _ _ q => neg_int q
end
def scal : V → V → Bool
 | .non, .non => true | .non, .int _ => true | .int _, .non => true | .non, .bl _ => true | .bl _, .non => true | .non, .str _ => true | .str _, .non => true
 | .int _, .int _ => true | .bl _, .bl _ => true | .str _, .str _ => true | .byt _, .byt _ => true
 | .int _, .str _ => true | .str _, .int _ => true | .bl _, .str _ => true | .str _, .bl _ => true
 | _, _ => false
def rEq : R2 := fun x y H Q => scal x y = true ∧ Q (.bl (decide (x = y))) H
def rNe : R2 := fun x y H Q => scal x y = true ∧ Q (.bl (!decide (x = y))) H
theorem dec_int {i j : Int} : decide (V.int i = V.int j) = (i == j) := by
 rw [Bool.eq_iff_iff]
 simp
theorem dec_bl {i j : Bool} : decide (V.bl i = V.bl j) = (i == j) := by
 rw [Bool.eq_iff_iff]
 simp
theorem dec_str {i j : Str} : decide (V.str i = V.str j) = (i == j) := by
 rw [Bool.eq_iff_iff]
 simp
theorem dec_byt {i j : Array UInt8} : decide (V.byt i = V.byt j) = (i.toList == j.toList) := by
 rw [Bool.eq_iff_iff]
 cases i
 cases j
 simp
section
variable {X : Cx} {a b c : Expr} {ta tb tc : TE} {pos : Pos}
theorem fin_bl {pins : List (Addr × Obj)} {σ : St} {H : Hp} {s : Shared} {Q : VK} {k k' : Bool} (I : Inv X pins σ H s) (q : Q (.bl k) H) (e : k = k') : EP X pins σ Q (.bool k') s := by
 subst e
 exact ⟨.bl k, H, I, rfl, q⟩
theorem op_eq : OpR X (compareOp .Eq) rEq := by
 intro pins s σ H x y v u Q I rx ry h
 obtain ⟨hs, q⟩ := h
 cases x with
 | non =>
  cases rx
  cases y with
  | non => cases ry; exact PySem.EqNone.eq_none_none (fin_bl I q (by simp))
  | bl j => cases ry; exact PySem.EqNone.eq_none_bool (fin_bl I q (by simp))
  | int j => obtain ⟨t', rfl⟩ := ry; exact PySem.EqNone.eq_none_int (fin_bl I q (by simp))
  | str j => obtain ⟨t', rfl⟩ := ry; exact PySem.EqNone.eq_none_str (fin_bl I q (by simp))
  | _ => exact absurd (show false = true from hs) Bool.false_ne_true
 | bl i =>
  cases rx
  cases y with
  | non => cases ry; exact PySem.EqNone.eq_bool_none (fin_bl I q (by simp))
  | bl j => cases ry; exact eq_bool (fin_bl I q dec_bl)
  | str j => obtain ⟨t', rfl⟩ := ry; exact PySem.EqMixed.eq_bool_str (fin_bl I q (by simp))
  | _ => exact absurd (show false = true from hs) Bool.false_ne_true
 | int i =>
  obtain ⟨t, rfl⟩ := rx
  cases y with
  | non => cases ry; exact PySem.EqNone.eq_int_none (fin_bl I q (by simp))
  | int j => obtain ⟨t', rfl⟩ := ry; exact eq_int (fin_bl I q dec_int)
  | str j => obtain ⟨t', rfl⟩ := ry; exact PySem.EqMixed.eq_int_str (fin_bl I q (by simp))
  | _ => exact absurd (show false = true from hs) Bool.false_ne_true
 | str i =>
  obtain ⟨t, rfl⟩ := rx
  cases y with
  | non => cases ry; exact PySem.EqNone.eq_str_none (fin_bl I q (by simp))
  | bl j => cases ry; exact PySem.EqMixed.eq_str_bool (fin_bl I q (by simp))
  | int j => obtain ⟨t', rfl⟩ := ry; exact PySem.EqMixed.eq_str_int (fin_bl I q (by simp))
  | str j => obtain ⟨t', rfl⟩ := ry; exact eq_str (fin_bl I q dec_str)
  | _ => exact absurd (show false = true from hs) Bool.false_ne_true
 | byt i =>
  obtain ⟨t, rfl⟩ := rx
  cases y with
  | byt j => obtain ⟨t', rfl⟩ := ry; exact PySem.W.eq_bytes (fin_bl I q dec_byt)
  | _ => exact absurd (show false = true from hs) Bool.false_ne_true
 | _ => cases y <;> exact absurd (show false = true from hs) Bool.false_ne_true
theorem op_ne : OpR X (compareOp .NotEq) rNe := by
 intro pins s σ H x y v u Q I rx ry h
 obtain ⟨hs, q⟩ := h
 cases x with
 | non =>
  cases rx
  cases y with
  | non => cases ry; exact PySem.EqNone.ne_none_none (fin_bl I q (by simp))
  | bl j => cases ry; exact PySem.EqNone.ne_none_bool (fin_bl I q (by simp))
  | int j => obtain ⟨t', rfl⟩ := ry; exact PySem.EqNone.ne_none_int (fin_bl I q (by simp))
  | str j => obtain ⟨t', rfl⟩ := ry; exact PySem.EqNone.ne_none_str (fin_bl I q (by simp))
  | _ => exact absurd (show false = true from hs) Bool.false_ne_true
 | bl i =>
  cases rx
  cases y with
  | non => cases ry; exact PySem.EqNone.ne_bool_none (fin_bl I q (by simp))
  | bl j => cases ry; exact ne_bool (fin_bl I q (congrArg not dec_bl))
  | str j => obtain ⟨t', rfl⟩ := ry; exact PySem.EqMixed.ne_bool_str (fin_bl I q (by simp))
  | _ => exact absurd (show false = true from hs) Bool.false_ne_true
 | int i =>
  obtain ⟨t, rfl⟩ := rx
  cases y with
  | non => cases ry; exact PySem.EqNone.ne_int_none (fin_bl I q (by simp))
  | int j => obtain ⟨t', rfl⟩ := ry; exact ne_int (fin_bl I q (congrArg not dec_int))
  | str j => obtain ⟨t', rfl⟩ := ry; exact PySem.EqMixed.ne_int_str (fin_bl I q (by simp))
  | _ => exact absurd (show false = true from hs) Bool.false_ne_true
 | str i =>
  obtain ⟨t, rfl⟩ := rx
  cases y with
  | non => cases ry; exact PySem.EqNone.ne_str_none (fin_bl I q (by simp))
  | bl j => cases ry; exact PySem.EqMixed.ne_str_bool (fin_bl I q (by simp))
  | int j => obtain ⟨t', rfl⟩ := ry; exact PySem.EqMixed.ne_str_int (fin_bl I q (by simp))
  | str j => obtain ⟨t', rfl⟩ := ry; exact ne_str (fin_bl I q (congrArg not dec_str))
  | _ => exact absurd (show false = true from hs) Bool.false_ne_true
 | byt i =>
  obtain ⟨t, rfl⟩ := rx
  cases y with
  | byt j => obtain ⟨t', rfl⟩ := ry; exact PySem.W.ne_bytes (fin_bl I q (congrArg not dec_byt))
  | _ => exact absurd (show false = true from hs) Bool.false_ne_true
 | _ => cases y <;> exact absurd (show false = true from hs) Bool.false_ne_true
theorem op_lt : OpR X (compareOp .Lt) (rI0 fun i j => .bl (decide (i < j))) := opB0 fun _ _ _ _ _ _ _ q => lt_int q
theorem op_le : OpR X (compareOp .LtE) (rI0 fun i j => .bl (decide (i ≤ j))) := opB0 fun _ _ _ _ _ _ _ q => le_int q
theorem op_gt : OpR X (compareOp .Gt) (rI0 fun i j => .bl (decide (j < i))) := opB0 fun _ _ _ _ _ _ _ q => gt_int q
theorem op_isN : OpR X (compareOp .Is) (fun x y H Q => y = .non ∧ Q (.bl (decide (x = .non))) H) := by
 intro pins s σ H x y v u Q I rx ry h
 obtain ⟨rfl, q⟩ := h
 cases ry
 refine is_none_gen (fin_bl I q ?_)
 cases x <;> first
  | (cases rx; rfl)
  | (obtain ⟨t, rfl⟩ := rx; rfl)
theorem op_notN : OpR X (compareOp .IsNot) (fun x y H Q => y = .non ∧ Q (.bl (!decide (x = .non))) H) := by
 intro pins s σ H x y v u Q I rx ry h
 obtain ⟨rfl, q⟩ := h
 cases ry
 refine isnot_none_gen (fin_bl I q ?_)
 cases x <;> first
  | (cases rx; rfl)
  | (obtain ⟨t, rfl⟩ := rx; rfl)
theorem OpR.or {f : Value → Value → Sem Value} {r r' : R2} (h : OpR X f r) (h' : OpR X f r') : OpR X f (fun x y H Q => r x y H Q ∨ r' x y H Q) := by
 intro pins s σ H x y v u Q I rx ry q
 rcases q with q | q
 ·exact h pins s σ H x y v u Q I rx ry q
 ·exact h' pins s σ H x y v u Q I rx ry q
theorem nomark (b : Expr) {op : CmpOp} (h : op ≠ .In := by decide) (h2 : op ≠ .NotIn := by decide) : behindInMarks op b = false := by
 have e1 : (op == CmpOp.In) = false := by cases op <;> first | rfl | exact absurd rfl h
 have e2 : (op == CmpOp.NotIn) = false := by cases op <;> first | rfl | exact absurd rfl h2
 cases b <;> simp [behindInMarks, e1, e2]
theorem pe_cmpR {op : CmpOp} {r : R2} (ho : OpR X (compareOp op) r) (ha : PE X a ta) (hb : PE X b tb) (hm : behindInMarks op b = false) : PE X (.Compare a [op] [b] pos) (tOp r ta tb) := by
 intro pins s σ H Q I h
 exact wpAny_Compare1 (binT ha hb I h fun v u s2 x y H2 I2 rx ry q => ho pins s2 σ H2 x y v u Q I2 rx ry q) hm
def tTest (t : TE) : TT := fun σ H Q => t σ H fun x H' => ∃ k, x = .bl k ∧ Q k H'
theorem pt_cmpR {op : CmpOp} {r : R2} (ho : OpR X (compareOp op) r) (ha : PE X a ta) (hb : PE X b tb) (hm : behindInMarks op b = false) : PT X (.Compare a [op] [b] pos) (tTest (tOp r ta tb)) := by
 intro pins s σ H Q I h
 refine wpAny_isTrue_Compare1 (thn (ha pins s σ H _ I h) fun v s1 ⟨x, H1, I1, r1, q1⟩ => thn (hb pins s1 σ H1 _ I1 q1) fun u s2 ⟨y, H2, I2, r2, q2⟩ =>
  thn (ho pins s2 σ H2 x y v u _ I2 r1 r2 q2) fun c s3 ⟨z, H3, I3, r3, k, e, q3⟩ => ?_) hm
 subst e
 cases r3
 exact wpAny_truthy_bool ⟨H3, I3, q3⟩
def tChain (r r' : R2) (ta tb tc : TE) : TE := fun σ H Q => ta σ H fun x H1 => tb σ H1 fun y H2 => r x y H2 fun z H3 => ∃ k, z = .bl k ∧
 (if k = true then tc σ H3 fun w' H4 => r' y w' H4 Q else Q (.bl false) H3)
theorem pe_chain {op op' : CmpOp} {r r' : R2} (ho : OpR X (compareOp op) r) (ho' : OpR X (compareOp op') r') (ha : PE X a ta) (hb : PE X b tb) (hc : PE X c tc)
  (hm : lastMarks [op, op'] [b, c] = false := by with_unfolding_all rfl) : PE X (.Compare a [op, op'] [b, c] pos) (tChain r r' ta tb tc) := by
 intro pins s σ H Q I h
 refine Compare_chain (thn (ha pins s σ H _ I h) fun v s1 ⟨x, H1, I1, r1, q1⟩ => chain_link (thn (hb pins s1 σ H1 _ I1 q1) fun u s2 ⟨y, H2, I2, r2, q2⟩ =>
  thn (ho pins s2 σ H2 x y v u _ I2 r1 r2 q2) fun d s3 ⟨z, H3, I3, r3, k, e, q3⟩ => ?_)) hm
 subst e
 cases r3
 refine wpAny_truthy_bool ?_
 cases k with
 | false => exact ite_ff ⟨.bl false, H3, I3, rfl, q3⟩
 | true => exact ite_tt (chain_last (thn (hc pins s3 σ H3 _ I3 q3) fun w' s4 ⟨z', H4, I4, r4, q4⟩ => ho' pins s4 σ H4 y z' u w' Q I4 r2 r4 q4))
theorem line63 : (sizeLine : Nat) < 2 ^ 63 := by rw [sizeLine_eq]; decide
theorem vals1 {x : V} {us : List Value} (r : Vals [x] us) : ∃ u, us = [u] ∧ RelV x u := by
 cases r with
 | cons r1 r2 => cases r2; exact ⟨_, rfl, r1⟩
theorem vals2 {x y : V} {us : List Value} (r : Vals [x, y] us) : ∃ u w', us = [u, w'] ∧ RelV x u ∧ RelV y w' := by
 cases r with
 | cons r1 r2 =>
  cases r2 with
  | cons r3 r4 => cases r4; exact ⟨_, _, rfl, r1, r3⟩
theorem call_min2 (hc : X.calm = true) : CallR X (.builtin "min") (fun xs H Q => ∃ i j, xs = [.int i, .int j] ∧ Q (.int (if j < i then j else i)) H) := by
 intro pins s σ H xs us Q I r h
 obtain ⟨i, j, rfl, q⟩ := h
 obtain ⟨u, w', rfl, ⟨t, rfl⟩, ⟨t', rfl⟩⟩ := vals2 r
 refine min_two_ints (I.ok.hd hc) fun h' tk k => ⟨_, H, I.kept k, ?_, q⟩
 by_cases hj : j < i
 ·rw [if_pos hj, if_pos hj]; exact ⟨_, rfl⟩
 ·rw [if_neg hj, if_neg hj]; exact ⟨_, rfl⟩
theorem call_int1 : CallR X (.type "int") (fun xs H Q => (∃ i, xs = [.int i] ∧ Q (.int i) H) ∨ ∃ k, xs = [.bl k] ∧ Q (.int (if k then 1 else 0)) H) := by
 intro pins s σ H xs us Q I r h
 rcases h with ⟨i, rfl, q⟩ | ⟨k, rfl, q⟩
 ·obtain ⟨u, rfl, t, rfl⟩ := vals1 r
  exact call_int_int ⟨.int i, H, I, ⟨_, rfl⟩, q⟩
 ·obtain ⟨u, rfl, r1⟩ := vals1 r
  cases r1
  exact call_int_bool ⟨.int (if k then 1 else 0), H, I.tok _, ⟨_, rfl⟩, q⟩
end
end L2
namespace L2
open PySem PySem.Spec PyProof.Rows
structure ObjM (h : Heap) (x dx C : Addr) (mA : Str → Option Value) : Prop where
 obj : h.get? x = some (PySem.W.instObj C dx)
 ns : h.Ns1 dx mA
 ne : dx ≠ x
theorem lookIn_ns {h : Heap} {dx : Addr} {mA : Str → Option Value} (n : h.Ns1 dx mA) : ∃ od, h.get? dx = some od ∧ ∀ name, PySem.W.lookIn name od = some (mA name) := by
 obtain ⟨o, es, ep, ho, hd, hk, _, hm⟩ := n
 refine ⟨o, ho, fun name => ?_⟩
 have e := hm name
 unfold nsFind findBy at e
 rw [← Array.find?_toList] at e
 unfold PySem.W.lookIn
 rw [hd]
 dsimp only
 split
 ·rename_i y q
  rw [q] at e
  exact congrArg some e
 ·rename_i q
  rw [q] at e
  have a : es.toList.any (·.refKey) = false := by
   rw [List.any_eq_false]
   intro y hy
   obtain ⟨z, t, hkey⟩ := hk y (Array.mem_toList_iff.mp hy)
   simp [DictEntry.refKey, hkey]
  have a' : ¬ es.toList.any (·.refKey) = true := by rw [a]; exact Bool.false_ne_true
  rw [if_neg a']
  exact congrArg some e
theorem ObjM.look {h : Heap} {x dx C : Addr} {mA : Str → Option Value} (I : ObjM h x dx C mA) : ∃ od, PySem.W.InstAt h x (PySem.W.instObj C dx) C (some od) ∧ ∀ name, PySem.W.lookIn name od = some (mA name) :=
 let ⟨od, ho, hl⟩ := lookIn_ns I.ns
 ⟨od, ⟨I.obj, rfl, rfl, ho⟩, hl⟩
section
variable {prog : Program} {w : World} {A : Around} {E : Value → Shared → Prop} {s : Shared} {K : PySem.W.Frag} {x dx C f : Addr} {mA : Str → Option Value} {name : Str} {v : Value}
end
theorem RelO.some_of {v : V} {o : Option Value} (r : RelO (some v) o) : ∃ u, o = some u ∧ RelV v u := by
 cases o with
 | none => exact (show False from r).elim
 | some u => exact ⟨u, rfl, r⟩
theorem RelO.none_of {o : Option Value} (r : RelO none o) : o = none := by
 cases o with
 | none => rfl
 | some u => exact (show False from r).elim
section
variable {P : Program} {w : World} {H H' : Hp} {h h' : Heap} {a C dx : Addr} {fs fs' : List (Str × V)}
theorem ins_get (hok : HOk P w H h) (e : H a = some (.ins C dx fs)) : ∃ mA, ObjM h a dx C mA ∧ (∀ f, RelO (fs.lookup f) (mA f)) ∧ PySem.Within mA (fs.map (·.1)) ∧ fs.length ≤ 1000 ∧ H dx = some (.own a) := by
 obtain ⟨d, z, ne, ob, mA, n, r, q⟩ := (show ObjOk P w H h a (.ins C dx fs) from hok a _ e)
 exact ⟨mA, ⟨ob, n, ne⟩, r, q, z, d⟩
end
structure Cls (K : PySem.W.Frag) (C : Addr) : Prop where
 pg : PySem.W.plainGet K C Str.empty = true
 hd : PySem.W.hasDictIn K C = true
 po : PySem.W.plainOver K C = true
 sa : PySem.W.findIn K (.ref C) "__setattr__" = some (some (.builtin "object.__setattr__"))
theorem Cls.get {K : PySem.W.Frag} {C : Addr} (c : Cls K C) (f : Str) : PySem.W.plainGet K C f = true := c.pg
structure Con (K : PySem.W.Frag) (C : Addr) (f : Str) (v : V) (u : Value) : Prop where
 at_ : PySem.W.findIn K (.ref C) f = some (some u)
 rel : RelV v u
 get : PySem.W.specialIn K u "__get__" = some none
 cp : PySem.W.copiedNames.contains f = false
structure Meth (K : PySem.W.Frag) (C : Addr) (m : Str) (f : Addr) : Prop where
 at_ : PySem.W.findIn K (.ref C) m = some (some (.ref f))
 fn : PySem.W.isFn K (.ref f) = true
 kp : PySem.W.keepIn K (.ref f) = true
section
variable {X : Cx} {pins : List (Addr × Obj)} {σ : St} {H : Hp} {s : Shared} {a C dx : Addr} {fs : List (Str × V)} {f : Str} {v : V} {A : Around} {E : Value → Shared → Prop}
theorem Inv.made (I : Inv X pins σ H s) : Inv X pins σ (upd (upd H s.heap.objs.size (.own (s.heap.objs.size + 1))) (s.heap.objs.size + 1) (.ins C s.heap.objs.size []))
  {s with heap := (s.heap.push PySem.W.emptyDict).push (PySem.W.instObj C s.heap.objs.size) } := by
 have e1 : (s.heap.push PySem.W.emptyDict).get? s.heap.objs.size = some PySem.W.emptyDict := Heap.get?_push_size s.heap rfl
 have e2 : ((s.heap.push PySem.W.emptyDict).push (PySem.W.instObj C s.heap.objs.size)).get? (s.heap.objs.size + 1) = some (PySem.W.instObj C s.heap.objs.size) := by
  have := Heap.get?_push_size (s.heap.push PySem.W.emptyDict) (o := PySem.W.instObj C s.heap.objs.size) rfl
  rwa [Heap.size_push] at this
 have e3 : (s.heap.push PySem.W.emptyDict).Ns s.heap.objs.size (fun _ => none) := ⟨PySem.W.emptyDict, #[], _, e1, rfl, (fun e he => absurd he (by simp)), fun _ => rfl⟩
 have I1 := I.laid (a := s.heap.objs.size) (o := .own (s.heap.objs.size + 1)) (h' := s.heap.push PySem.W.emptyDict) (t' := s.toks) (fun b u q => Heap.get?_push_of_some _ q) (Nat.le_refl _) ⟨_, e1⟩
 refine I1.laid (a := s.heap.objs.size + 1) (o := .ins C s.heap.objs.size []) (t' := s.toks) (fun b u q => Heap.get?_push_of_some _ q) (Nat.le_of_eq (Heap.size_push _ _)) ?_
 have ne : s.heap.objs.size ≠ s.heap.objs.size + 1 := Nat.ne_of_lt (Nat.lt_succ_self _)
 refine ⟨by rw [upd_ne ne, upd_same], Nat.zero_le _, ne, e2, fun _ => none, (Heap.Ns1.of_empty e3).at fun o q => Heap.get?_push_of_some _ q, fun _ => True.intro, fun y hy => absurd rfl hy⟩
end
section
variable {X : Cx} {o e value : Expr} {f : Str} {pos pos' tpos : Pos} {ta tv : TE}
end
section
variable {X : Cx} {pins : List (Addr × Obj)} {σ : St} {H : Hp} {s : Shared} {A : Around} {E : Value → Shared → Prop} {Q : Value → Shared → Prop} {c : Value} {b : Bool}
inductive TyOf (K : PySem.W.Frag) (H : Hp) : V → Value → Prop where
 | non : TyOf K H .non (.type "NoneType")
 | bl (x : Bool) : TyOf K H (.bl x) (.type "bool")
 | int (i : Int) : TyOf K H (.int i) (.type "int")
 | str (x : Str) : TyOf K H (.str x) (.type "str")
 | flt (x : UInt64) : TyOf K H (.flt x) (.type "float")
 | lst {a : Addr} {xs : List V} (e : H a = some (.lst xs)) : TyOf K H (.ref a) (.type "list")
 | frz {a : Addr} {o : Obj} {xs : List V} (e : H a = some (.frz o (.lst xs))) : TyOf K H (.ref a) (.type "list")
 | tup {a : Addr} {xs : List V} (e : H a = some (.tup xs)) : TyOf K H (.ref a) (.type "tuple")
 | dK {a : Addr} {kvs : List (Key × V)} (e : H a = some (.dK kvs)) : TyOf K H (.ref a) (.type "dict")
 | dT {a : Addr} {kvs : List (List Key × V)} (e : H a = some (.dT kvs)) : TyOf K H (.ref a) (.type "dict")
 | ins {a C dx : Addr} {fs : List (Str × V)} (e : H a = some (.ins C dx fs)) (cl : Cls K C) (ha : PySem.W.findIn K (.ref C) "__class__" = some (some (.builtin "object.__class__")))
   (hn : PySem.W.specialIn K (.builtin "object.__class__") "__get__" = some (some (.builtin "getset_descriptor.__get__"))) (htk : PySem.W.takesIn K (.builtin "object.__class__") = some true)
   (hm : PySem.W.mroIn K C (.type "object") = some true) : TyOf K H (.ref a) (.ref C)
theorem isinst_ok {x : V} {u t : Value} (I : Inv X pins σ H s) (rx : RelV x u) (ty : TyOf X.K H x t) (e : PySem.W.kitOne X.K t c = some b) (h : ∀ tk, Q (.bool b) { s with toks := tk }) :
  wpAny (model X.prog X.w) A (call (.builtin "isinstance") [u, c]) Q E s := by
 cases ty with
 | non => cases (show u = Value.none from rx); exact PySem.W.kia_one PySem.W.kitx_none I.kIn True.intro e (fun z => nomatch z) h
 | bl y => cases (show u = Value.bool y from rx); exact PySem.W.kia_one PySem.W.kitx_bool I.kIn True.intro e (fun z => nomatch z) h
 | int i => obtain ⟨t, q⟩ := (show ∃ t, u = Value.int i t from rx); cases q; exact PySem.W.kia_one PySem.W.kitx_int I.kIn True.intro e (fun z => nomatch z) h
 | str y => obtain ⟨t, q⟩ := (show ∃ t, u = Value.str y t from rx); cases q; exact PySem.W.kia_one PySem.W.kitx_str I.kIn True.intro e (fun z => nomatch z) h
 | flt y => obtain ⟨t, q⟩ := (show ∃ t, u = Value.float y t from rx); cases q; exact PySem.W.kia_one PySem.W.kitx_float I.kIn True.intro e (fun z => nomatch z) h
 | @lst a xs ea =>
  cases (show u = Value.ref a from rx)
  obtain ⟨_, _, n, _, h1⟩ := (show ObjOk X.prog X.w H s.heap a (.lst xs) from I.hok a _ ea)
  exact PySem.W.kia_one PySem.W.kitx_list I.kIn ⟨_, h1, rfl⟩ e (fun z => nomatch z) h
 | @frz a ob xs ea =>
  cases (show u = Value.ref a from rx)
  obtain ⟨_, _, _, n, _, h1⟩ := (show ObjOk X.prog X.w H s.heap a (.frz ob (.lst xs)) from I.hok a _ ea)
  exact PySem.W.kia_one PySem.W.kitx_list I.kIn ⟨_, h1, rfl⟩ e (fun z => nomatch z) h
 | @tup a xs ea =>
  cases (show u = Value.ref a from rx)
  obtain ⟨_, _, _, p⟩ := (show ObjOk X.prog X.w H s.heap a (.tup xs) from I.hok a _ ea)
  obtain ⟨o, h1, h2, _⟩ := p
  exact PySem.W.kia_one PySem.W.kitx_tuple I.kIn ⟨o, h1, h2⟩ e (fun z => nomatch z) h
 | @dK a kvs ea =>
  cases (show u = Value.ref a from rx)
  obtain ⟨_, _, vs, _, p⟩ := (show ObjOk X.prog X.w H s.heap a (.dK kvs) from I.hok a _ ea)
  obtain ⟨o, es, ep, h1, h2, _⟩ := p
  exact PySem.W.kia_one PySem.W.kitx_dict I.kIn ⟨o, h1, h2.1⟩ e (fun z => nomatch z) h
 | @dT a kvs ea =>
  cases (show u = Value.ref a from rx)
  obtain ⟨_, _, xs, _, o, es, ep, h1, h2, _⟩ := (show ObjOk X.prog X.w H s.heap a (.dT kvs) from I.hok a _ ea)
  exact PySem.W.kia_one PySem.W.kitx_dict I.kIn ⟨o, h1, h2.1⟩ e (fun z => nomatch z) h
 | @ins a C dx fs ea cl ha hn htk hm =>
  cases (show u = Value.ref a from rx)
  obtain ⟨mA, O, _⟩ := ins_get I.hok ea
  obtain ⟨od, J, _⟩ := O.look
  exact PySem.W.kia_one (PySem.W.kitx_own (cl.get _) cl.hd ha hn htk hm) I.kIn J e (fun z => nomatch z) h
end
end L2
namespace L2
open PySem PySem.Spec PyProof.Rows
structure Room (k : Nat) (A : Around) : Prop where
 hd : A.handled = none
 dp : A.depth + 3 * k + 5 < recursionLimit
 un : A.units + 16 * k + 200 < cLine
theorem Room.mono {j k : Nat} {A : Around} (r : Room k A) (h : j ≤ k) : Room j A := ⟨r.hd, by have := r.dp; omega, by have := r.un; omega⟩
theorem Room.deeper {k : Nat} {A : Around} (r : Room (k + 1) A) (env : Env) : Room k (A.deeper env) :=
 ⟨r.hd, by have := r.dp; show A.depth + 1 + 3 * k + 5 < _; omega, by have := r.un; show A.units + 3 + 16 * k + 200 < _; omega⟩
theorem Room.in1 {k : Nat} {A : Around} (r : Room (k + 1) A) : Room k A.in1 :=
 ⟨r.hd, by have := r.dp; show A.depth + 3 * k + 5 < _; omega, by have := r.un; show A.units + 1 + 16 * k + 200 < _; omega⟩
theorem make_depth {A : Around} {C : Addr} {us : List Value} {kw : List (Str × Value)} : (A.under (.builtin "type.__call__" ⟨.ref C :: us, kw⟩)).depth = A.depth + 1 := by
 first | rfl | simp [Around.under, Code.weight, Code.isCreation, Code.isGuard, Code.isCaller, Code.frames, Code.isFrame, guardIds]
theorem make_units {A : Around} {C : Addr} {us : List Value} {kw : List (Str × Value)} : (A.under (.builtin "type.__call__" ⟨.ref C :: us, kw⟩)).units = A.units + 1 := by
 first | rfl | simp [Around.under, Code.cUnits, Code.frames, Code.isFrame]
theorem Room.make {k : Nat} {A : Around} (r : Room (k + 1) A) (C : Addr) (us : List Value) (kw : List (Str × Value)) : Room k (A.under (.builtin "type.__call__" ⟨.ref C :: us, kw⟩)) :=
 ⟨r.hd, by have := r.dp; rw [make_depth]; omega, by have := r.un; rw [make_units]; omega⟩
theorem Room.depth {k : Nat} {A : Around} (r : Room k A) : A.depth < recursionLimit := by have := r.dp; omega
theorem Room.units {k : Nat} {A : Around} (r : Room k A) : A.units + 64 < cLine := by have := r.un; omega
theorem Room.units0 {k : Nat} {A : Around} (r : Room k A) : A.units < cLine := by have := r.un; omega
def tNil : TA := fun _ H Q => Q [] H
def tCons (ta : TE) (tr : TA) : TA := fun σ H Q => ta σ H fun x H1 => tr σ H1 fun xs H2 => Q (x :: xs) H2
section
variable {X : Cx} {e : Expr} {es : List Expr} {te : TE} {t : TA} {pos : Pos}
theorem pa_nil : PA X [] tNil := fun _ _ _ _ H Q I h => Calls.spliced_nil ⟨[], H, I, .nil, h⟩
theorem pa_cons (ha : PE X e te) (hr : PA X es t) (hs : starEach (e :: es) X.env = (false, eval e X.env) :: starEach es X.env := by rfl) : PA X (e :: es) (tCons te t) := by
 intro pos pins s σ H Q I h
 rw [hs]
 show wpAny _ _ (spliced ((false, eval e X.env) :: backTo pos (starEach es X.env))) _ _ s
 refine Calls.spliced_cons (thn (ha pins s σ H _ I h) fun u s1 ⟨x, H1, I1, r1, q1⟩ => ?_)
 exact thn (hr pos pins s1 σ H1 _ I1 q1) fun us s2 ⟨xs, H2, I2, r2, q2⟩ => ⟨x :: xs, H2, I2, .cons r1 r2, q2⟩
def tTup (t : TA) : TE := fun σ H Q => t σ H fun xs H1 => xs.length ≤ sizeLine ∧ ∀ p, H1 p = none → Q (.ref p) (upd H1 p (.tup xs))
def tLst (t : TA) : TE := fun σ H Q => t σ H fun xs H1 => xs.length ≤ sizeLine ∧ ∀ p, H1 p = none → Q (.ref p) (upd H1 p (.lst xs))
theorem pe_tup {x1} (h : PA X es t) : PE X (.Tuple es x1 pos) (tTup t) := by
 intro pins s σ H Q I hq
 refine wpAny_Tuple_spliced (thn (h pos pins s σ H _ I hq) fun us s1 ⟨xs, H1, I1, r, z, q⟩ => ⟨by rw [← r.length]; exact z, ?_⟩)
 have hf : H1 s1.heap.objs.size = none := I1.hok.fresh (Nat.le_refl _)
 refine ⟨.ref s1.heap.objs.size, upd H1 s1.heap.objs.size (.tup xs), I1.laid (t' := s1.toks) (fun b u e => Heap.get?_push_of_some _ e) (Nat.le_refl _) ?_, rfl, q _ hf⟩
 exact ⟨z, us, r, ⟨_, Heap.get?_push_size _ rfl, rfl, rfl, _, rfl⟩⟩
theorem pe_lst (h : PA X es t) : PE X (.List es pos) (tLst t) := by
 intro pins s σ H Q I hq
 refine wpAny_List_spliced (thn (h pos pins s σ H _ I hq) fun us s1 ⟨xs, H1, I1, r, z, q⟩ => ⟨by rw [← r.length]; exact z, ?_⟩)
 have hf : H1 s1.heap.objs.size = none := I1.hok.fresh (Nat.le_refl _)
 refine ⟨.ref s1.heap.objs.size, upd H1 s1.heap.objs.size (.lst xs), I1.laid (t' := s1.toks) (fun b u e => Heap.get?_push_of_some _ e) (Nat.le_refl _) ?_, rfl, q _ hf⟩
 exact ⟨z, us, 0, r, Heap.get?_push_size _ rfl⟩
end
abbrev Sp := List V → Hp → VK → XK → Prop
abbrev CXT := List Env → Hp → Shared → XK → Value → Shared → Prop
structure Env0 (P : Program) (w : World) (K : PySem.W.Frag) (mg : Str → Option Value) (base : Heap) (A : Around) (outer : List Env) (s : Shared) (H : Hp) : Prop where
 frames : A.frames = some outer
 mod : Mod K mg base
 bs : ∀ b o, base.get? b = some o → s.heap.get? b = some o ∧ H b = none
 bsz : base.objs.size ≤ s.heap.objs.size
 funs : s.heap.FunFrames base outer
 frf : ∀ b ∈ frs outer, H b = none
 hok : HOk P w H s.heap
 bare : AllBare s.gens
def CE (outer : List Env) (P : Program) (w : World) (H : Hp) (s : Shared) (Q : VK) (u : Value) (s' : Shared) : Prop :=
 ∃ v H', s'.os = s.os ∧ AllBare s'.gens ∧ Un (frs outer) [] H H' s.heap s'.heap ∧ HOk P w H' s'.heap ∧ RelV v u ∧ Q v H'
def CR (CX : CXT) (outer : List Env) (P : Program) (w : World) (H : Hp) (s : Shared) (Q : VK) (E : XK) (r : Result) (s' : Shared) : Prop :=
 match r with
 | .ok (.ret u) => CE outer P w H s Q u s'
 | .ok _ => False
 | .error e => CX outer H s E e s'
structure FnOk (P : Program) (w : World) (K : PySem.W.Frag) (mg : Str → Option Value) (base : Heap) (CX : CXT) (k : Nat) (f : Addr) (fd : FuncData) (ps : List Str) (sp : Sp) : Prop where
 len : ∀ vs H Q E, sp vs H Q E → vs.length = ps.length
 run : ∀ (A : Around) (outer : List Env) (s : Shared) (H : Hp) (args : Args) (us : List Value) (vs : List V) (Q : VK) (E : XK), Room k A → Env0 P w K mg base A outer s H → BindsTo s fd args (ps.zip us) → Vals vs us → sp vs H Q E →
  codeAny (model P w) A (.call (.ref f) args) (CR CX outer P w H s Q E) s
theorem FnOk.mono {P : Program} {w : World} {K : PySem.W.Frag} {mg : Str → Option Value} {base : Heap} {CX : CXT} {j k : Nat} {f : Addr} {fd : FuncData} {ps : List Str} {sp : Sp} (F : FnOk P w K mg base CX j f fd ps sp) (h : j ≤ k) :
  FnOk P w K mg base CX k f fd ps sp := ⟨F.len, fun A outer s H args us vs Q E hr => F.run A outer s H args us vs Q E (hr.mono h)⟩
theorem FnOk.imp {P : Program} {w : World} {K : PySem.W.Frag} {mg : Str → Option Value} {base : Heap} {CX : CXT} {k : Nat} {f : Addr} {fd : FuncData} {ps : List Str} {sp sp' : Sp} (F : FnOk P w K mg base CX k f fd ps sp)
  (h : ∀ vs H Q E, sp' vs H Q E → sp vs H Q E) : FnOk P w K mg base CX k f fd ps sp' :=
 ⟨fun vs H Q E q => F.len vs H Q E (h _ _ _ _ q), fun A outer s H args us vs Q E hr he hb hv hs => F.run A outer s H args us vs Q E hr he hb hv (h _ _ _ _ hs)⟩
theorem Env0.make {P : Program} {w : World} {K : PySem.W.Frag} {mg : Str → Option Value} {base : Heap} {A : Around} {outer : List Env} {s : Shared} {H : Hp} (e : Env0 P w K mg base A outer s H) (C : Addr) (us : List Value) (kw : List (Str × Value)) :
  Env0 P w K mg base (A.under (.builtin "type.__call__" ⟨.ref C :: us, kw⟩)) outer s H := ⟨by first | exact e.frames | (simpa [Around.under, Code.envs, Code.isFrame, pushEnvs] using e.frames), e.mod, e.bs, e.bsz, e.funs, e.frf, e.hok, e.bare⟩
theorem Env0.in1 {P : Program} {w : World} {K : PySem.W.Frag} {mg : Str → Option Value} {base : Heap} {A : Around} {outer : List Env} {s : Shared} {H : Hp} (e : Env0 P w K mg base A outer s H) :
  Env0 P w K mg base A.in1 outer s H := ⟨e.frames, e.mod, e.bs, e.bsz, e.funs, e.frf, e.hok, e.bare⟩
section
variable {X : Cx} {pins : List (Addr × Obj)} {σ : St} {H : Hp} {s s' : Shared}
theorem Inv.env0 (I : Inv X pins σ H s) : Env0 X.prog X.w X.K X.mg X.base X.A X.stack s H :=
 ⟨I.ok.frames, I.ok.mod, I.bs, Nat.le_trans I.ok.bsz I.sz, I.stack, I.stkFree, I.hok, I.bare⟩
theorem Inv.after {Q : VK} {u : Value} (I : Inv X pins σ H s) (h : CE X.stack X.prog X.w H s Q u s') : EP X pins σ Q u s' := by
 obtain ⟨v, H', os, bare, un, hok, r, q⟩ := h
 obtain ⟨hh, g, d, t, os'⟩ := s'
 obtain rfl : os' = s.os := os
 exact ⟨v, H', I.call (h' := hh) (g' := g) (d' := d) (t' := t) (ch := []) un hok bare (fun b z => absurd z (by simp)), r, q⟩
end
def tCall (sp : Sp) (dvs : List V) (E : XK) (t : TA) : TE := fun σ H Q => t σ H fun vs H1 => sp (vs ++ dvs) H1 Q E
def Binds (K : PySem.W.Frag) (fd : FuncData) (ps : List Str) (ds : List Value) : Prop :=
 ∀ (s : Shared) (us : List Value), K.In s.heap → (us ++ ds).length = ps.length → BindsTo s fd ⟨us, []⟩ (ps.zip (us ++ ds))
theorem Binds.all {K : PySem.W.Frag} {fd : FuncData} {ps : List Str} (h : ∀ us : List Value, us.length = ps.length → bindArgs fd ⟨us, []⟩ = pure (ps.zip us)) : Binds K fd ps [] := fun s us _ hl => by
 rw [List.append_nil] at hl ⊢
 exact .of_eq (h us hl)
def Passes (CX : CXT) (X : Cx) (E : XK) : Prop := ∀ (pins : List (Addr × Obj)) (σ : St) (H : Hp) (s : Shared) (e : Value) (s' : Shared), Inv X pins σ H s → CX X.stack H s E e s' → X.xe e s'
section
variable {X : Cx} {CX : CXT} {k : Nat} {f C : Addr} {fd : FuncData} {ps : List Str} {sp : Sp} {dvs : List V} {ds : List Value} {E : XK} {x m : Str} {p pos apos : Pos} {e o : Expr} {es : List Expr} {ta : TE} {t : TA}
theorem run_fn {pins : List (Addr × Obj)} {σ : St} {H : Hp} {s : Shared} {Q : VK} {us : List Value} {vs : List V} (F : FnOk X.prog X.w X.K X.mg X.base CX k f fd ps sp) (hr : Room k X.A) (hb : Binds X.K fd ps ds) (hd : Vals dvs ds) (hx : Passes CX X E)
  (I : Inv X pins σ H s) (r : Vals vs us) (h : sp (vs ++ dvs) H Q E) : wpAny (model X.prog X.w) X.A (call (.ref f) us) (EP X pins σ Q) X.xe s := by
 have r2 : Vals (vs ++ dvs) (us ++ ds) := r.append hd
 have hl : (us ++ ds).length = ps.length := by rw [← r2.length]; exact F.len _ _ _ _ h
 refine wpAny_call (codeAny_mono (F.run X.A X.stack s H ⟨us, []⟩ (us ++ ds) (vs ++ dvs) Q E hr I.env0 (hb s us I.kIn hl) r2 h) fun r s' hq => ?_)
 cases r with
 | error e => exact hx pins σ H s e s' I hq
 | ok fl =>
  cases fl with
  | ret u => exact I.after hq
  | next => exact False.elim hq
  | brk => exact False.elim hq
  | cont => exact False.elim hq
theorem pe_call (F : FnOk X.prog X.w X.K X.mg X.base CX k f fd ps sp) (hr : Room k X.A) (hg : Gl X x) (hm : X.mg x = some (.ref f)) (hk : PySem.W.keepIn X.K (.ref f) = true) (hb : Binds X.K fd ps ds) (hd : Vals dvs ds) (hx : Passes CX X E)
  (ha : PA X (e :: es) t) (hdb : (x == ("__debug__" : Str)) = false := by decide) (he : starEach (e :: es) X.env = (false, eval e X.env) :: starEach es X.env := by rfl) (hpl : (backTo pos (starEach es X.env)).any (·.1) = false := by rfl) :
  PE X (.Call (.Name x p) (e :: es) [] pos) (tCall sp dvs E t) := by
 intro pins s σ H Q I h
 refine wpAny_Call_Name_kw (ld_glob I hg hm ?_ hdb)
 refine PySem.W.callWith_K (h₀ := X.base) I.ok.mod.kin hk (thn (ha pos pins s σ H _ I h) fun us s1 ⟨vs, H1, I1, r, q⟩ => ⟨I1.kIn, ?_⟩) he hpl
 exact run_fn F hr hb hd hx I1 r q
structure Mk (K : PySem.W.Frag) (C f : Addr) : Prop where
 makes : PySem.W.makesIn K C = true
 init : PySem.W.findIn K (.ref C) "__init__" = some (some (.ref f))
 fn : PySem.W.isFn K (.ref f) = true
 kp : PySem.W.keepIn K (.ref C) = true
end
section
variable {X : Cx} {CX : CXT} {k : Nat} {f C : Addr} {fd : FuncData} {ps ks : List Str} {sp : Sp} {E : XK} {x m : Str} {p pos apos kpos : Pos} {e o : Expr} {es : List Expr} {kws : List Keyword} {te ta : TE} {t tk : TA} {nm : Option Str}
structure KBinds (K : PySem.W.Frag) (fd : FuncData) (ps ks : List Str) (g : List Value → List Value → List Value) (gV : List V → List V → List V) : Prop where
 to : ∀ (s : Shared) (us ws : List Value), K.In s.heap → (g us ws).length = ps.length → BindsTo s fd ⟨us, ks.zip ws⟩ (ps.zip (g us ws))
 rel : ∀ {vs : List V} {us : List Value} {zs : List V} {ws : List Value}, Vals vs us → Vals zs ws → Vals (gV vs zs) (g us ws)
variable {g : List Value → List Value → List Value} {gV : List V → List V → List V}
end
structure FnScope (N P : List Str) (sc : Scope) : Prop where
 kind : sc.kind = .function
 co : sc.isCoroutine = false
 gen : sc.isGenerator = false
 nd : N.Nodup
 pre : N.take P.length = P
 par : ∀ x ∈ P, sc.names.lookup x = some .local ∨ sc.names.lookup x = some .cell
 nofree : ∀ y ∈ sc.names, y.2 ≠ .free
theorem bindL_out {kindOf : Str → Option NameKind} {x : Str} : ∀ {binds : List (Str × Value)} {m : Str → Option Value}, (∀ v, (x, v) ∉ binds) → bindL kindOf binds m x = m x
 | [], _, _ => rfl
 | (n, v) :: r, m, h => by
  unfold bindL
  rw [bindL_out fun w hw => h w (List.mem_cons_of_mem _ hw)]
  split
  ·have : x ≠ n := by rintro rfl; exact h v List.mem_cons_self
   simp [this]
  ·rfl
theorem bindC_out {kindOf : Str → Option NameKind} {x : Str} : ∀ {binds : List (Str × Value)} {m : Str → Option Value}, (∀ v, (x, v) ∉ binds) → bindC kindOf binds m x = m x
 | [], _, _ => rfl
 | (n, v) :: r, m, h => by
  unfold bindC
  rw [bindC_out fun w hw => h w (List.mem_cons_of_mem _ hw)]
  split
  ·rfl
  ·have : x ≠ n := by rintro rfl; exact h v List.mem_cons_self
   simp [this]
theorem bindL_get {kindOf : Str → Option NameKind} {x : Str} {v : Value} : ∀ {P : List Str} {vs : List Value} {i : Nat} {m : Str → Option Value}, P.Nodup → P[i]? = some x → vs[i]? = some v → kindOf x = some .local →
  bindL kindOf (P.zip vs) m x = some v
 | [], _, _, _, _, h, _, _ => by simp at h
 | _ :: _, [], _, _, _, _, h, _ => by simp at h
 | p :: P, w :: vs, 0, m, nd, h1, h2, hk => by
  simp at h1 h2; subst h1; subst h2
  show bindL kindOf ((p, w) :: P.zip vs) m p = _
  unfold bindL
  rw [bindL_out fun v hv => (List.nodup_cons.mp nd).1 (List.of_mem_zip hv).1, if_pos hk]
  simp
 | p :: P, w :: vs, i + 1, m, nd, h1, h2, hk => by
  show bindL kindOf ((p, w) :: P.zip vs) m x = _
  unfold bindL
  exact bindL_get (i := i) (List.nodup_cons.mp nd).2 (by simpa using h1) (by simpa using h2) hk
theorem bindC_get {kindOf : Str → Option NameKind} {x : Str} {v : Value} : ∀ {P : List Str} {vs : List Value} {i : Nat} {m : Str → Option Value}, P.Nodup → P[i]? = some x → vs[i]? = some v → kindOf x ≠ some .local →
  bindC kindOf (P.zip vs) m x = some v
 | [], _, _, _, _, h, _, _ => by simp at h
 | _ :: _, [], _, _, _, _, h, _ => by simp at h
 | p :: P, w :: vs, 0, m, nd, h1, h2, hk => by
  simp at h1 h2; subst h1; subst h2
  show bindC kindOf ((p, w) :: P.zip vs) m p = _
  unfold bindC
  rw [bindC_out fun v hv => (List.nodup_cons.mp nd).1 (List.of_mem_zip hv).1, if_neg hk]
  simp
 | p :: P, w :: vs, i + 1, m, nd, h1, h2, hk => by
  show bindC kindOf ((p, w) :: P.zip vs) m x = _
  unfold bindC
  exact bindC_get (i := i) (List.nodup_cons.mp nd).2 (by simpa using h1) (by simpa using h2) hk
def start (N : List Str) (vs : List V) : St := vs.map some ++ List.replicate (N.length - vs.length) none
def cxOf (CX : CXT) (P : Program) (w : World) (K : PySem.W.Frag) (mg : Str → Option Value) (base : Heap) (N : List Str) (qual : Str) (scope : Scope) (f : Addr) (cd : Value) (A : Around) (outer : List Env) (s : Shared) (H : Hp) (E : XK) : Cx where
 prog := P
 w := w
 K := K
 mg := mg
 base := base
 A := A.deeper (envOfC qual scope s.heap.objs.size f cd)
 N := N
 s₀ := s
 H₀ := H
 env := envOfC qual scope s.heap.objs.size f cd
 outer := outer
 stack := envOfC qual scope s.heap.objs.size f cd :: outer
 ex := []
 calm := true
 fn := fun _ => true
 pn := []
 xe := fun e s' => wpAny (model P w) (A.deeper (envOfC qual scope s.heap.objs.size f cd)) (leaving (envOfC qual scope s.heap.objs.size f cd) e) (fun _ s'' => CX outer H s E e s'') (fun e' s'' => CX outer H s E e' s'') s'
theorem cell_has {sc : Scope} {n : Nat} {x : Str} (h : sc.names.lookup x = some .cell) : ∃ c, (cellsFrom n sc.names []).lookup x = some c := by
 have q := PySem.W.cellsFrom_some sc.names n [] (.inl h)
 exact Option.isSome_iff_exists.mp q
theorem inv_start {CX : CXT} {P : Program} {w : World} {K : PySem.W.Frag} {mg : Str → Option Value} {base : Heap} {N ps : List Str} {qual : Str} {scope : Scope} {f : Addr} {cd : Value} {A : Around} {outer : List Env} {s s1 : Shared} {H : Hp} {E : XK} {us : List Value} {vs : List V}
  (S : FnScope N ps scope) (hd : A.handled = none) (e0 : Env0 P w K mg base A outer s H) (hl : vs.length = ps.length) (r : Vals vs us)
  (x : InCallC s s.heap.objs.size (bindL (envOfC qual scope s.heap.objs.size f cd).kindOf (ps.zip us) fun _ => none) (cellsFrom (s.heap.objs.size + 1) scope.names []) (bindC (envOfC qual scope s.heap.objs.size f cd).kindOf (ps.zip us) fun _ => none) s1) :
  Inv (cxOf CX P w K mg base N qual scope f cd A outer s H E) [] (start N vs) H s1 := by
 have hpl : ps.length ≤ N.length := by have := congrArg List.length S.pre; rw [List.length_take] at this; omega
 obtain ⟨h1, tk, rfl, hk⟩ := x.done
 have noA : ∀ b : Addr, b ∉ (cxOf CX P w K mg base N qual scope f cd A outer s H E).ex := fun b z => absurd (show b ∈ ([] : List Addr) from z) (by simp)
 refine ⟨⟨e0.mod, S.kind, rfl, rfl, Nat.le_refl _, fun y z c h1 h2 => ?_, fun y hy => ?_, fun y c _ h => ?_, fun _ => hd, Around.frames_deeper e0.frames, .inr ⟨rfl, rfl⟩, fun b z => absurd z (noA b), e0.bs, e0.bsz, fun b _ _ => noA b, fun b z => absurd z (noA b), e0.funs, e0.frf⟩,
  rfl, e0.bare, Un.kept hk, ⟨_, x.toInCall.ns, fun i y v h1 h2 h3 => ?_⟩, fun y c h => ⟨_, x.cell y c h⟩, e0.hok.fresh (Nat.le_refl _), fun y c h => ?_, fun p hp => absurd (show p ∈ ([] : List (Addr × Obj)) from hp) (by simp), e0.hok.kept hk, ?_⟩
 ·exact name_of_addr x.apart (PySem.mem_of_lookup h1) (PySem.mem_of_lookup h2)
 ·have hy : scope.names.lookup y = some .cell ∨ scope.names.lookup y = some .free := hy
  rcases hy with hy | hy
  ·exact cell_has hy
  ·exact absurd rfl (S.nofree _ (PySem.mem_of_lookup hy))
 ·exact Nat.le_of_lt (x.above y c (PySem.mem_of_lookup h))
 ·have hi : i < vs.length := by
   unfold start at h2
   by_cases hi : i < vs.length
   ·exact hi
   ·rw [List.getElem?_append_right (by simpa using hi)] at h2
    rw [List.getElem?_replicate] at h2
    split at h2 <;> cases h2
  have ha : vs[i]? = some v := by
   unfold start at h2
   rw [List.getElem?_append_left (by simpa using hi), List.getElem?_map] at h2
   cases e : vs[i]? with
   | none => rw [e] at h2; cases h2
   | some a => rw [e] at h2; cases h2; rfl
  obtain ⟨u, hu, rv⟩ := r.get ha
  have hp : ps[i]? = some y := by
   rw [← S.pre, List.getElem?_take_of_lt (by omega)]; exact h1
  have ndP : ps.Nodup := by rw [← S.pre]; exact S.nd.sublist (List.take_sublist _ _)
  refine ⟨u, rv, ?_⟩
  rcases S.par y (List.mem_of_getElem? hp) with k | k
  ·exact .inl ⟨k, bindL_get ndP hp hu k⟩
  ·obtain ⟨c, e⟩ := cell_has (n := s.heap.objs.size + 1) k
   refine .inr ⟨.inl k, c, e, ?_⟩
   have q := x.cell y c e
   rw [bindC_get ndP hp hu (by show scope.names.lookup y ≠ _; rw [k]; decide)] at q
   exact q
 ·exact e0.hok.fresh (Nat.le_of_lt (x.above y c (PySem.mem_of_lookup h)))
 ·unfold start
  show _ = N.length
  rw [List.length_append, List.length_map, List.length_replicate]
  omega
theorem fn_of {CX : CXT} {P : Program} {w : World} {K : PySem.W.Frag} {mg : Str → Option Value} {base : Heap} {k : Nat} {f : Addr} {name qual : Str} {params : Arguments} {body : List Stmt} {scope : Scope} {dV kV doc pm cdv ct oc : Value} {an od : Option Addr}
  {osl : Array (Option Value)} {N ps : List Str} {sp : Sp} (lk : K.lookup f = some ⟨oc, od, .func (PySem.W.fnOf name qual params body scope dV kV doc pm an cdv ct), osl⟩) (hcd : PySem.W.codeIn K cdv qual = true) (S : FnScope N ps scope)
  (len : ∀ vs H Q E, sp vs H Q E → vs.length = ps.length)
  (hbody : ∀ (A : Around) (outer : List Env) (s : Shared) (H : Hp) (vs : List V) (Q : VK) (E : XK), Room k (A.deeper (envOfC qual scope s.heap.objs.size f cdv)) → sp vs H Q E →
   ∃ t, PSs (cxOf CX P w K mg base N qual scope f cdv A outer s H E) body t ∧ t { nx := fun _ H' => Q .non H', rt := Q } (start N vs) H) :
  FnOk P w K mg base CX (k + 1) f (PySem.W.fnOf name qual params body scope dV kV doc pm an cdv ct) ps sp := by
 refine ⟨len, fun A outer s H args us vs Q E hr e0 hb r hsp => ?_⟩
 have hl := len _ _ _ _ hsp
 have KX : K.In s.heap := e0.mod.kin.keeps fun b o e => (e0.bs b o e).1
 have lim : s.heap.NoLimit := e0.mod.nolimit.keeps fun b o e => (e0.bs b o e).1
 have hkind : ∀ y ∈ ps.zip us, scope.names.lookup y.1 = some .local ∨ (scope.names.lookup y.1 = some .cell ∧ ((cellsFrom (s.heap.objs.size + 1) scope.names []).lookup y.1).isSome = true) := fun ⟨n, v⟩ hy => by
  rcases S.par n (List.of_mem_zip hy).1 with q | q
  ·exact .inl q
  ·exact .inr ⟨q, PySem.W.cellsFrom_some _ _ _ (.inl q)⟩
 refine codeAny_call_function hr.depth (KX _ _ lk) rfl S.co S.gen rfl (PySem.W.codeRec_of KX hcd) (hb _ _ _ _ ?_)
 refine wpAny_newFunctionEnv_cells S.kind hkind fun env he s1 x => ?_
 subst he
 refine ⟨lim.keeps x.toInCall.keep, codeAny_func ?_⟩
 obtain ⟨t, ht, hq⟩ := hbody A outer s H vs Q E (hr.deeper _) hsp
 have I : Inv (cxOf CX P w K mg base N qual scope f cdv A outer s H E) [] (start N vs) H s1 := inv_start S hr.hd e0 hl r x
 refine wpAny_mono (ht [] s1 (start N vs) H _ I hq) (fun fl s' hs => ?_) fun e s' hs => hs
 have fin : ∀ {σ' : St} {H' : Hp} {v : V} {u : Value}, Inv (cxOf CX P w K mg base N qual scope f cdv A outer s H E) [] σ' H' s' → RelV v u → Q v H' → CE outer P w H s Q u s' :=
  fun {σ' H' v u} J rv q => ⟨v, H', J.os, J.bare, J.base, J.hok, rv, q⟩
 cases fl with
 | ret u =>
  obtain ⟨v, σ', H', J, rv, q⟩ := hs
  exact fin J rv q
 | next =>
  obtain ⟨σ', H', J, q⟩ := hs
  exact fin (v := V.non) (u := Value.none) J rfl q
 | brk =>
  obtain ⟨_, _, _, q⟩ := hs
  exact False.elim q
 | cont =>
  obtain ⟨_, _, _, q⟩ := hs
  exact False.elim q
end L2
namespace L2
open PySem PySem.Spec PyProof.Rows
section
variable {X : Cx} {x : Str} {p pos : Pos} {e : Expr} {es : List Expr} {t : TA} {id T : String} {r : List V → Hp → VK → Prop}
def tCB (r : List V → Hp → VK → Prop) (t : TA) : TE := fun σ H Q => t σ H fun vs H1 => r vs H1 Q
theorem pe_callB (hc : CallR X (.builtin id) r) (hg : Gl X x) (hm : X.mg x = none) (hv : bootBuiltins x = some (.builtin id)) (ha : PA X (e :: es) t) (hn : x ≠ "__name__" := by decide) (hdb : (x == ("__debug__" : Str)) = false := by decide)
  (he : starEach (e :: es) X.env = (false, eval e X.env) :: starEach es X.env := by rfl) (hpl : (backTo pos (starEach es X.env)).any (·.1) = false := by rfl) : PE X (.Call (.Name x p) (e :: es) [] pos) (tCB r t) := by
 intro pins s σ H Q I h
 refine wpAny_Call_Name_kw (ld_blt I hg hm hv ?_ hn hdb)
 exact PyProof.Rows.callWith_builtin1 (thn (ha pos pins s σ H _ I h) fun us s1 ⟨vs, H1, I1, r1, q1⟩ => hc pins s1 σ H1 vs us Q I1 r1 q1) he hpl
theorem pe_callTy (hc : CallR X (.type T) r) (hg : Gl X x) (hm : X.mg x = none) (hv : bootBuiltins x = some (.type T)) (ha : PA X (e :: es) t) (hn : x ≠ "__name__" := by decide) (hdb : (x == ("__debug__" : Str)) = false := by decide)
  (he : starEach (e :: es) X.env = (false, eval e X.env) :: starEach es X.env := by rfl) (hpl : (backTo pos (starEach es X.env)).any (·.1) = false := by rfl) : PE X (.Call (.Name x p) (e :: es) [] pos) (tCB r t) := by
 intro pins s σ H Q I h
 refine wpAny_Call_Name_kw (ld_blt I hg hm hv ?_ hn hdb)
 exact PyProof.Rows.callWith_type1 (thn (ha pos pins s σ H _ I h) fun us s1 ⟨vs, H1, I1, r1, q1⟩ => hc pins s1 σ H1 vs us Q I1 r1 q1) he hpl
end
end L2
namespace HT
open PySem PyProof.Rows
section
open PySem.SeqAt
open PySem.AutoSeq1 (wpAny_loadPart')
open PySem.MeetsSeq PySem.MeetsSeq2 PySem.MeetsSeq3
end
section
variable {prog : Program} {w : World} {A : Around} {E : Value → Shared → Prop} {s : Shared}
theorem cat_tup {t b : Addr} {vs ws : List Value} {Q : Value → Shared → Prop} (ht : IsTup s.heap t vs.toArray) (hb : IsTup s.heap b ws.toArray) (hv : vs ≠ [])
  (h1 : ws = [] → Q (.ref t) s) (h2 : ws ≠ [] → Q (.ref s.heap.objs.size) { s with heap := s.heap.push { cls := .type "tuple", data := .seq (vs ++ ws).toArray } })
  (hsz : vs.length + ws.length ≤ sizeLine) : wpAny (model prog w) A (binaryOp .Add (.ref t) (.ref b)) Q E s := by
 obtain ⟨⟨cls, dd, data, sl⟩, ho, hc, n, hd⟩ := id ht
 obtain ⟨⟨cls2, dd2, data2, sl2⟩, ho2, hc2, n2, hd2⟩ := id hb
 simp only at hc hd hc2 hd2
 subst hc hd hc2 hd2
 have e : vs.toArray ++ ws.toArray = (vs ++ ws).toArray := by simp
 by_cases hw : ws = []
 ·exact concat_meets ⟨_, ho, rfl⟩ ⟨_, ho2, rfl⟩ noFill_tuple_add seq_tuple_add PySem.F.slot_tuple_add PySem.F.entry_tuple_add (PySem.F.args_tuple_add_2 _ _)
   (tuple_addW1 t b vs.toArray ws.toArray n n2 dd dd2 sl sl2 (by simpa using hv) (by simp [hw])) ⟨ho, ho2, h1 hw⟩
 ·refine concat_meets ⟨_, ho, rfl⟩ ⟨_, ho2, rfl⟩ noFill_tuple_add seq_tuple_add PySem.F.slot_tuple_add PySem.F.entry_tuple_add (PySem.F.args_tuple_add_2 _ _)
   (tuple_addW2 t b vs.toArray ws.toArray n n2 dd dd2 sl sl2 (by simpa using hv) (by simpa using hw) (by rw [List.size_toArray, List.size_toArray]; exact hsz)) ⟨ho, ho2, ?_⟩
  rw [e]
  exact h2 hw
def sIx (n d : Nat) : Option Int → Nat
 | none => d
 | some v => if v < 0 then (v + (n : Int)).toNat else min v.toNat n
theorem sIx_nat (n d k : Nat) : sIx n d (some (k : Int)) = min k n := by
 show (if (k : Int) < 0 then ((k : Int) + (n : Int)).toNat else min (k : Int).toNat n) = min k n
 rw [if_neg (by omega), Int.toNat_natCast]
theorem sIx_le (n d : Nat) (hd : d ≤ n) (o : Option Int) : sIx n d o ≤ n := by
 cases o with
 | none => exact hd
 | some v =>
  show (if v < 0 then (v + (n : Int)).toNat else min v.toNat n) ≤ n
  by_cases hv : v < 0
  ·rw [if_pos hv]; omega
  ·rw [if_neg hv]; exact Nat.min_le_right _ _
theorem clip_eq (v : Int) (n d : Nat) : (if v < 0 then max (v + (n : Int)) 0 else min v (n : Int)) = ((sIx n d (some v) : Nat) : Int) := by
 show (if v < 0 then max (v + (n : Int)) 0 else min v (n : Int)) = (((if v < 0 then (v + (n : Int)).toNat else min v.toNat n) : Nat) : Int)
 by_cases hv : v < 0
 ·simp only [if_pos hv]; omega
 ·simp only [if_neg hv]; omega
theorem adjust_gen (lo hi : Option Int) (n : Nat) : Builtin.Slice.sliceAdjust lo hi 1 (n : Int) = (((sIx n 0 lo : Nat) : Int), ((sIx n n hi : Nat) : Int)) := by
 have h1 : ¬ ((1 : Int) < 0) := by omega
 unfold Builtin.Slice.sliceAdjust
 simp only [h1, if_false]
 refine Prod.ext ?_ ?_
 ·cases lo with
  | none => rfl
  | some v => exact clip_eq v n 0
 ·cases hi with
  | none => rfl
  | some v => exact clip_eq v n n
theorem places_gen (i j : Nat) : Builtin.Slice.slicePlaces (i : Int) (j : Int) 1 = j - i := by
 unfold Builtin.Slice.slicePlaces
 have h1 : (1 : Int) > 0 := by omega
 simp only [h1, if_true, Int.ediv_one]
 split <;> omega
theorem slicePart_ {v : Value} {o : Option Int} {Q : Option Int → Shared → Prop} (p : IsPart v o) (h : Q o s) : wpAny (model prog w) A (Builtin.Slice.slicePartIndex v) Q E s := by
 cases p with
 | none => exact slicePart_none h
 | int i t => exact slicePart_int h
theorem sliceApplied_gen {sl : Addr} {vl vu : Value} {lo hi : Option Int} {n : Nat} {Q : Int × Int × Nat → Shared → Prop} (hs : s.heap.IsSliceOf sl vl vu .none) (pl : IsPart vl lo) (pu : IsPart vu hi)
  (h : Q (((sIx n 0 lo : Nat) : Int), 1, sIx n n hi - sIx n 0 lo) s) : wpAny (model prog w) A (Builtin.Slice.sliceApplied (.ref sl) (pure (n : Int))) Q E s := by
 obtain ⟨os, hos, hcs, hds⟩ := id hs
 unfold Builtin.Slice.sliceApplied Builtin.Slice.sliceFields
 refine wpAny_bind (wpAny_bind (wpAny_field hos hds (x := vl) rfl (wpAny_bind (wpAny_field hos hds (x := vu) rfl (wpAny_bind (wpAny_field hos hds (x := .none) rfl (wpAny_pure ?_)))))))
 refine wpAny_bind (slicePart_none ?_)
 show wpAny _ _ (if ((1 : Int) == 0) = true then _ else _) _ _ s
 rw [if_neg (by decide)]
 refine wpAny_bind (slicePart_ pl (wpAny_bind (slicePart_ pu (wpAny_bind (wpAny_pure ?_)))))
 show wpAny _ _ (match Builtin.Slice.sliceAdjust lo hi 1 (n : Int) with | (lo, hi) => pure (lo, (1 : Int), Builtin.Slice.slicePlaces lo hi 1)) _ _ s
 rw [adjust_gen lo hi n]
 show wpAny _ _ (pure (((sIx n 0 lo : Nat) : Int), (1 : Int), Builtin.Slice.slicePlaces ((sIx n 0 lo : Nat) : Int) ((sIx n n hi : Nat) : Int) 1)) _ _ s
 rw [places_gen]
 exact wpAny_pure h
theorem pick_gen (xs : Array Value) (i k : Nat) : ((List.range k).filterMap fun (m : Nat) => xs[((i : Int) + (m : Int) * 1).toNat]?).toArray = ((xs.toList.drop i).take k).toArray := by
 have e : (fun (m : Nat) => xs[((i : Int) + (m : Int) * 1).toNat]?) = fun m => xs[i + m]? := by
  funext m
  have : ((i : Int) + (m : Int) * 1).toNat = i + m := by omega
  rw [this]
 rw [e]
 have := pick_run xs i k
 rw [List.filterMap_map] at this
 have e2 : ((fun x => xs[x]?) ∘ fun x => i + x) = fun m => xs[i + m]? := rfl
 rw [e2] at this
 rw [this]
theorem getItem_tuple_cut {t sl : Addr} {items : Array Value} {vl vu : Value} {lo hi : Option Int} {Q : Value → Shared → Prop} (ht : IsTup s.heap t items) (hs : s.heap.IsSliceOf sl vl vu .none) (pl : IsPart vl lo) (pu : IsPart vu hi)
  (hw : ¬ (sIx items.size 0 lo = 0 ∧ sIx items.size items.size hi = items.size))
  (h : Q (.ref s.heap.objs.size) { s with heap := s.heap.push { cls := .type "tuple", data := .seq ((items.toList.drop (sIx items.size 0 lo)).take (sIx items.size items.size hi - sIx items.size 0 lo)).toArray } })
  (hsz : items.size ≤ sizeLine) : wpAny (model prog w) A (getItem (.ref t) (.ref sl)) Q E s := by
 have htake : sizeOk (.seq ((items.toList.drop (sIx items.size 0 lo)).take (sIx items.size items.size hi - sIx items.size 0 lo)).toArray) := by
  show ((items.toList.drop (sIx items.size 0 lo)).take (sIx items.size items.size hi - sIx items.size 0 lo)).toArray.size ≤ sizeLine
  rw [List.size_toArray, List.length_take, List.length_drop, Array.length_toList]
  omega
 have hj : sIx items.size items.size hi ≤ items.size := sIx_le _ _ (Nat.le_refl _) hi
 obtain ⟨os, hos, hcs, hds⟩ := id hs
 have hTs : s.TypeIs (.ref sl) "slice" := ⟨os, hos, hcs⟩
 unfold getItem
 try with_reducible refine wpAny_holding ?_
 first | refine wpAny_bind (wpAny_pure ?_) | skip
 refine wpAny_bind (wpAny_sequenceKey ht.typeIs (by decide) ?_)
 refine wpAny_bind (wpAny_callSpecial?_slot (name := Str.ofString "__getitem__") ht.typeIs PyProof.Rows.slot_tuple_getitem
  (wpAny_call_entry PyProof.Rows.slot_tuple_getitem ht.typeIs entry_tuple_getitem ?_ (args_tuple_getitem _ _)))
 show wpAny _ _ (Builtin.Tuple.tupleItemsOf (.ref t) >>= _) _ _ s
 refine wpAny_bind (tupleItemsOf_ ht ?_)
 refine wpAny_bind (wpAny_typeOf hTs ?_)
 rw [if_pos (by decide)]
 refine wpAny_bind (sliceApplied_gen hs pl pu ?_)
 have hno : ¬ ((((sIx items.size 0 lo : Nat) : Int) == 0 && (1 : Int) == 1 && (sIx items.size items.size hi - sIx items.size 0 lo) == items.size) = true) := by
  intro q
  rw [Bool.and_eq_true, Bool.and_eq_true] at q
  have q1 : ((sIx items.size 0 lo : Nat) : Int) = 0 := eq_of_beq q.1.1
  have q2 : sIx items.size items.size hi - sIx items.size 0 lo = items.size := eq_of_beq q.2
  exact hw ⟨by omega, by omega⟩
 show wpAny _ _ (if (((sIx items.size 0 lo : Nat) : Int) == 0 && (1 : Int) == 1 && (sIx items.size items.size hi - sIx items.size 0 lo) == items.size) = true then _ else _) _ _ s
 rw [if_neg hno, pick_gen]
 first
  | exact wpAny_bind (m := Builtin.Tuple.tupleExact _) (wpAny_newObj_type (wpAny_pure ⟨_, rfl, wpAny_pure h⟩) htake)
  | exact wpAny_bind (m := Builtin.Tuple.tupleExact _) (wpAny_newObj_type (wpAny_bind (wpAny_pure (wpAny_pure ⟨_, rfl, wpAny_pure h⟩))) htake)
  | exact wpAny_bind (wpAny_bind (m := Builtin.Tuple.tupleExact _) (wpAny_newObj_type (wpAny_pure (wpAny_pure ⟨_, rfl, wpAny_pure h⟩)) htake))
  | exact wpAny_bind (wpAny_bind (m := Builtin.Tuple.tupleExact _) (wpAny_newObj_type (wpAny_pure ⟨_, rfl, wpAny_pure h⟩) htake))
end
end HT
namespace L2
open PySem PySem.Spec PyProof.Rows
abbrev TO := St → Hp → (Option Int → Hp → Prop) → Prop
def PO (X : Cx) (e : Option Expr) (t : TO) : Prop :=
 ∀ (pins : List (Addr × Obj)) (s : Shared) (σ : St) (H : Hp) (Q : Option Int → Hp → Prop), Inv X pins σ H s → t σ H Q →
  wpAny (model X.prog X.w) X.A (evalPart e X.env) (fun u s' => ∃ o H', Inv X pins σ H' s' ∧ IsPart u o ∧ Q o H') X.xe s
def tNoPart : TO := fun _ H Q => Q none H
def tPart (t : TE) : TO := fun σ H Q => t σ H fun x H1 => ∃ i, x = .int i ∧ Q (some i) H1
section
variable {X : Cx} {e : Expr} {te : TE} {lo hi : Option Expr} {tl th : TO} {pos p2 : Pos}
theorem po_none : PO X none tNoPart := by
 intro pins s σ H Q I h
 rw [evalPart_none]
 exact wpAny_pure ⟨none, H, I, .none, h⟩
theorem po_some (h : PE X e te) : PO X (some e) (tPart te) := by
 intro pins s σ H Q I hw
 rw [evalPart_some]
 refine thn (h pins s σ H _ I hw) fun u s1 ⟨x, H1, I1, r1, q1⟩ => ?_
 obtain ⟨i, rfl, q⟩ := q1
 obtain ⟨t, rfl⟩ := r1
 exact ⟨some i, H1, I1, .int i t, q⟩
def SlR (X : Cx) (r : V → Option Int → Option Int → Hp → VK → Prop) : Prop :=
 ∀ (pins : List (Addr × Obj)) (s : Shared) (σ : St) (H : Hp) (x : V) (v vl vu : Value) (lo hi : Option Int) (sl : Addr) (Q : VK), Inv X pins σ H s → RelV x v → s.heap.IsSliceOf sl vl vu .none → IsPart vl lo → IsPart vu hi → r x lo hi H Q →
  ∃ T id, typeLookup (.type T) "__getitem__" = pure (some (.builtin id)) ∧ s.TypeIs v T ∧ wpAny (model X.prog X.w) X.A (getItem v (.ref sl)) (EP X pins σ Q) X.xe s
theorem SlR.or {r r' : V → Option Int → Option Int → Hp → VK → Prop} (h : SlR X r) (h' : SlR X r') : SlR X (fun x lo hi H Q => r x lo hi H Q ∨ r' x lo hi H Q) := by
 intro pins s σ H x v vl vu lo hi sl Q I rx hs pl pu q
 rcases q with q | q
 ·exact h pins s σ H x v vl vu lo hi sl Q I rx hs pl pu q
 ·exact h' pins s σ H x v vl vu lo hi sl Q I rx hs pl pu q
def tSl (r : V → Option Int → Option Int → Hp → VK → Prop) (te : TE) (tl th : TO) : TE := fun σ H Q => te σ H fun x H1 => tl σ H1 fun l H2 => th σ H2 fun u H3 => r x l u H3 Q
theorem pe_slice {r : V → Option Int → Option Int → Hp → VK → Prop} (hr : SlR X r) (he : PE X e te) (hl : PO X lo tl) (hu : PO X hi th) : PE X (.Subscript e (.Slice lo hi none p2) pos) (tSl r te tl th) := by
 intro pins s σ H Q I h
 refine Subscript_ (thn (he pins s σ H _ I h) fun v s1 ⟨x, H1, I1, r1, q1⟩ => ?_)
 refine wpAny_Slice (thn (hl pins s1 σ H1 _ I1 q1) fun vl s2 ⟨l, H2, I2, pl, q2⟩ => thn (hu pins s2 σ H2 _ I2 q2) fun vu s3 ⟨u, H3, I3, pu, q3⟩ => ?_)
 rw [evalPart_none]
 refine wpAny_pure ?_
 have I4 : Inv X pins σ H3 { s3 with heap := s3.heap.push { cls := .type "slice", data := .fields #[vl, vu, .none] } } := I3.kept (t' := s3.toks) fun b ob q => Heap.get?_push_of_some _ q
 obtain ⟨T, id, hT, ht, hg⟩ := hr pins { s3 with heap := s3.heap.push { cls := .type "slice", data := .fields #[vl, vu, .none] } } σ H3 x v vl vu l u s3.heap.objs.size Q I4 r1 (Heap.IsSliceOf.new ..) pl pu q3
 show wpAny (model X.prog X.w) X.A (subscriptTail e (.Slice lo hi none p2) v (.ref s3.heap.objs.size)) (EP X pins σ Q) X.xe { s3 with heap := s3.heap.push { cls := .type "slice", data := .fields #[vl, vu, .none] } }
 exact tail_any (ops := [.ref s3.heap.objs.size, v]) ht hT hg (by with_unfolding_all rfl)
def cutV (xs : List V) (lo hi : Option Int) : List V := (xs.drop (HT.sIx xs.length 0 lo)).take (HT.sIx xs.length xs.length hi - HT.sIx xs.length 0 lo)
theorem cutV_length (xs : List V) (lo hi : Option Int) : (cutV xs lo hi).length ≤ xs.length := by
 unfold cutV
 rw [List.length_take, List.length_drop]
 omega
def rSlT (K : PySem.W.Frag) : V → Option Int → Option Int → Hp → VK → Prop := fun x lo hi H Q => ∃ a xs, x = .ref a ∧ SqT K H a xs ∧
 ¬ (HT.sIx xs.length 0 lo = 0 ∧ HT.sIx xs.length xs.length hi = xs.length) ∧ ∀ p, H p = none → Q (.ref p) (upd H p (.tup (cutV xs lo hi)))
theorem sl_tup : SlR X (rSlT X.K) := by
 intro pins s σ H x v vl vu lo hi sl Q I rx hs pl pu h
 obtain ⟨a, xs, rfl, hx, hw, q⟩ := h
 cases rx
 obtain ⟨its, r, ht, hz⟩ := I.tuple hx
 have hlen : its.toArray.size = xs.length := by rw [List.size_toArray]; exact r.length.symm
 refine ⟨"tuple", _, PyProof.Rows.slot_tuple_getitem.lookup, ht.typeIs, ?_⟩
 refine HT.getItem_tuple_cut ht hs pl pu (by rw [hlen]; exact hw) ?_ (by rw [hlen]; exact hz)
 rw [hlen]
 refine ⟨.ref s.heap.objs.size, _, I.laid (t' := s.toks) (o := .tup (cutV xs lo hi)) (fun b ob q => Heap.get?_push_of_some _ q) (Nat.le_refl _) ?_, rfl, q _ (I.hok.fresh (Nat.le_refl _))⟩
 exact ⟨Nat.le_trans (cutV_length xs lo hi) hz, _, (r.drop (HT.sIx xs.length 0 lo)).take (HT.sIx xs.length xs.length hi - HT.sIx xs.length 0 lo), IsTupN.new _ _⟩
def rCatT (K : PySem.W.Frag) : R2 := fun x y H Q => ∃ a b xs ys, x = .ref a ∧ y = .ref b ∧ SqT K H a xs ∧ SqT K H b ys ∧ xs ≠ [] ∧ xs.length + ys.length ≤ sizeLine ∧
 (ys = [] → Q (.ref a) H) ∧ (ys ≠ [] → ∀ p, H p = none → Q (.ref p) (upd H p (.tup (xs ++ ys))))
theorem Vals.nil_iff {xs : List V} {us : List Value} (r : Vals xs us) : us = [] ↔ xs = [] := by
 cases r with
 | nil => simp
 | cons _ _ => simp
theorem op_catT : OpR X (binaryOp .Add) (rCatT X.K) := by
 intro pins s σ H x y v u Q I rx ry h
 obtain ⟨a, b, xs, ys, rfl, rfl, ha, hb, hx, hz, q1, q2⟩ := h
 cases rx
 cases ry
 obtain ⟨its, r1, p1, _⟩ := I.tuple ha
 obtain ⟨its2, r2, p2, _⟩ := I.tuple hb
 refine HT.cat_tup p1 p2 (fun z => hx (r1.nil_iff.mp z)) (fun z => ⟨.ref a, H, I, rfl, q1 (r2.nil_iff.mp z)⟩) (fun z => ?_) (by rw [← r1.length, ← r2.length]; exact hz)
 refine ⟨.ref s.heap.objs.size, _, I.laid (t' := s.toks) (o := .tup (xs ++ ys)) (fun b ob q => Heap.get?_push_of_some _ q) (Nat.le_refl _) ?_, rfl, q2 (fun w => z (r2.nil_iff.mpr w)) _ (I.hok.fresh (Nat.le_refl _))⟩
 exact ⟨by rw [List.length_append]; exact hz, _, r1.append r2, IsTupN.new _ _⟩
end
end L2
namespace L2
open PySem PySem.Spec PyProof.Rows
def ixN (n : Nat) (i : Int) : Option Nat := if 0 ≤ i then (if i < n then some i.toNat else none) else if -(n : Int) ≤ i then some (i + n).toNat else none
def atI {α : Type} (xs : List α) (i : Int) : Option α := (ixN xs.length i).bind fun j => xs[j]?
theorem ixN_seq {n : Nat} {i : Int} {j : Nat} (h : ixN n i = some j) : seqIndex? i n = some j ∧ j < n ∧ -(n : Int) ≤ i ∧ i < n := by
 unfold ixN at h
 by_cases h0 : 0 ≤ i
 ·rw [if_pos h0] at h
  by_cases h1 : i < n
  ·rw [if_pos h1] at h
   have e : i.toNat = j := Option.some.inj h
   exact ⟨by rw [seqIndex_of h0 h1, e], by omega, by omega, h1⟩
  ·rw [if_neg h1] at h; cases h
 ·rw [if_neg h0] at h
  by_cases h1 : -(n : Int) ≤ i
  ·rw [if_pos h1] at h
   have e : (i + n).toNat = j := Option.some.inj h
   exact ⟨by rw [seqIndex_neg (by omega) h1, e], by omega, h1, by omega⟩
  ·rw [if_neg h1] at h; cases h
theorem atI_get {α : Type} {xs : List α} {i : Int} {v : α} (h : atI xs i = some v) : ∃ j, seqIndex? i xs.length = some j ∧ xs[j]? = some v ∧ j < xs.length ∧ -(xs.length : Int) ≤ i ∧ i < xs.length := by
 unfold atI at h
 cases e : ixN xs.length i with
 | none => rw [e] at h; cases h
 | some j =>
  rw [e] at h
  obtain ⟨h1, h2, h3, h4⟩ := ixN_seq e
  exact ⟨j, h1, h, h2, h3, h4⟩
theorem atI_nat {α : Type} {xs : List α} {j : Nat} {v : α} (h : xs[j]? = some v) : atI xs (j : Int) = some v := by
 have hj : j < xs.length := (List.getElem?_eq_some_iff.mp h).1
 have e : ixN xs.length (j : Int) = some j := by
  unfold ixN
  rw [if_pos (by omega), if_pos (by omega)]; simp
 unfold atI; rw [e]; exact h
theorem atI_last {α : Type} (xs : List α) (v : α) : atI (xs ++ [v]) (-1) = some v := by
 have hl : (xs ++ [v]).length = xs.length + 1 := by simp
 have e : ixN (xs ++ [v]).length (-1) = some xs.length := by
  unfold ixN
  rw [hl, if_neg (by decide), if_pos (by omega)]
  congr 1
  omega
 unfold atI
 rw [e]
 show (xs ++ [v])[xs.length]? = some v
 simp
def PlainIx (b : Expr) : Prop := ∀ o i, subscripted b false o i = operate [o, i] (getItem o i)
def IxR (X : Cx) (r : R2) : Prop :=
 ∀ (value slice : Expr) (pins : List (Addr × Obj)) (s : Shared) (σ : St) (H : Hp) (x y : V) (v u : Value) (Q : VK), Inv X pins σ H s → RelV x v → RelV y u → r x y H Q →
  subscripted slice false v u = operate [v, u] (getItem v u) → wpAny (model X.prog X.w) X.A (subscriptTail value slice v u) (EP X pins σ Q) X.xe s
def MtR (X : Cx) (id : String) (r : V → List V → Hp → VK → Prop) : Prop :=
 ∀ (pins : List (Addr × Obj)) (s : Shared) (σ : St) (H : Hp) (x : V) (xs : List V) (v : Value) (us : List Value) (Q : VK), Inv X pins σ H s → RelV x v → Vals xs us → r x xs H Q →
  wpAny (model X.prog X.w) X.A (call (.builtin id) (v :: us)) (EP X pins σ Q) X.xe s
section
variable {X : Cx} {a b : Expr} {ta tb : TE} {pos : Pos}
theorem IxR.or {r r' : R2} (h : IxR X r) (h' : IxR X r') : IxR X (fun x y H Q => r x y H Q ∨ r' x y H Q) := by
 intro value slice pins s σ H x y v u Q I rx ry q hs
 rcases q with q | q
 ·exact h value slice pins s σ H x y v u Q I rx ry q hs
 ·exact h' value slice pins s σ H x y v u Q I rx ry q hs
theorem MtR.or {id : String} {r r' : V → List V → Hp → VK → Prop} (h : MtR X id r) (h' : MtR X id r') : MtR X id (fun x xs H Q => r x xs H Q ∨ r' x xs H Q) := by
 intro pins s σ H x xs v us Q I rx rs q
 rcases q with q | q
 ·exact h pins s σ H x xs v us Q I rx rs q
 ·exact h' pins s σ H x xs v us Q I rx rs q
theorem pe_ix {r : R2} (hr : IxR X r) (ha : PE X a ta) (hb : PE X b tb) (hs : PlainIx b) : PE X (.Subscript a b pos) (tOp r ta tb) := by
 intro pins s σ H Q I h
 exact Subscript_ (binT ha hb I h fun v u s2 x y H2 I2 rx ry q => hr a b pins s2 σ H2 x y v u Q I2 rx ry q (hs _ _))
def rIxL (K : PySem.W.Frag) : R2 := fun x y H Q => ∃ p xs i v, x = .ref p ∧ y = .int i ∧ SqL K H p xs ∧ atI xs i = some v ∧ Q v H
def rIxT (K : PySem.W.Frag) : R2 := fun x y H Q => ∃ p xs i v, x = .ref p ∧ y = .int i ∧ SqT K H p xs ∧ atI xs i = some v ∧ Q v H
theorem ix_list : IxR X (rIxL X.K) := by
 intro value slice pins s σ H x y v u Q I rx ry h hs
 obtain ⟨p, xs, i, z, rfl, rfl, hq, he, q⟩ := h
 cases rx
 obtain ⟨t, rfl⟩ := ry
 obtain ⟨its, r, pl, hz⟩ := I.list hq
 obtain ⟨j, h1, h2, h3, h4, h5⟩ := atI_get he
 obtain ⟨w, ew, rw'⟩ := r.get h2
 have hl := r.length
 have hn := line63
 have fin : EP X pins σ Q w s := ⟨z, H, I, rw', q⟩
 by_cases h0 : 0 ≤ i
 ·have hj : i.toNat = j := by
   rw [seqIndex_of h0 h5] at h1
   exact Option.some.inj h1
  exact item_listR pl.isList h0 (by omega) (by rw [hj]; simpa using ew) fin hs
 ·have hj : (i + (its.toArray.size : Int)).toNat = j := by
   rw [seqIndex_neg (by omega) h4] at h1
   rw [List.size_toArray, ← hl]
   exact Option.some.inj h1
  exact subscriptTail_builtinR (x := w) pl.isList.typeIs slot_list_getitem.lookup
   (wpAny_getItem_list_neg (Q := fun r s' => r = w ∧ EP X pins σ Q r s') pl.isList (by omega) (by rw [List.size_toArray] <;> omega) (by omega) (by rw [hj]; simpa using ew) ⟨rfl, fin⟩) hs
theorem ix_tup : IxR X (rIxT X.K) := by
 intro value slice pins s σ H x y v u Q I rx ry h hs
 obtain ⟨p, xs, i, z, rfl, rfl, hq, he, q⟩ := h
 cases rx
 obtain ⟨t, rfl⟩ := ry
 obtain ⟨its, r, pl, hz⟩ := I.tuple hq
 obtain ⟨j, h1, h2, h3, h4, h5⟩ := atI_get he
 obtain ⟨w, ew, rw'⟩ := r.get h2
 have hl := r.length
 have hn := line63
 have fin : EP X pins σ Q w s := ⟨z, H, I, rw', q⟩
 exact subscriptTail_builtinR (x := w) pl.typeIs slot_tuple_getitem.lookup
  (getItem_tuple (j := j) (Q := fun r s' => r = w ∧ EP X pins σ Q r s') pl (by omega) (by omega) (by rw [List.size_toArray, ← hl]; exact h1) (by simpa using ew) ⟨rfl, fin⟩) hs
theorem mapSeq_set (its : List Value) (n j : Nat) (u : Value) : Obj.mapSeq (·.setIfInBounds j u) { cls := .type "list", data := .seq its.toArray n } = { cls := .type "list", data := .seq (its.set j u).toArray n } := by
 simp [Obj.mapSeq]
theorem Inv.lst {pins : List (Addr × Obj)} {σ : St} {H : Hp} {s : Shared} {p : Addr} {xs : List V} (I : Inv X pins σ H s) (h : H p = some (.lst xs)) :
  ∃ (its : List Value) (n : Nat), Vals xs its ∧ s.heap.get? p = some { cls := .type "list", data := .seq its.toArray n } ∧ xs.length ≤ sizeLine := by
 obtain ⟨z, its, n, r, e⟩ := I.hok p _ h
 exact ⟨its, n, r, e, z⟩
theorem Inv.lstUpd {pins : List (Addr × Obj)} {σ : St} {H : Hp} {s : Shared} {p : Addr} {xs ys : List V} {its its' : List Value} {n n' : Nat} {f : Obj → Obj} (I : Inv X pins σ H s) (h : H p = some (.lst xs))
  (ho : s.heap.get? p = some { cls := .type "list", data := .seq its.toArray n }) (hf : f { cls := .type "list", data := .seq its.toArray n } = { cls := .type "list", data := .seq its'.toArray n' }) (r : Vals ys its') (hz : ys.length ≤ sizeLine) (t : Nat) :
  Inv X pins σ (upd H p (.lst ys)) { s with heap := s.heap.update p f, toks := t } := by
 have e : (s.heap.update p f).get? p = some { cls := .type "list", data := .seq its'.toArray n' } := by
  rw [Heap.get?_update_self f ho (by rw [hf] <;> rfl), hf]
 refine I.write (x := p) (e := p) (by rw [h]; trivial) (.inl rfl) (fun b u hb q => (Heap.get?_update_other _ _ (Ne.symm hb)).trans q) ⟨_, e⟩ ?_
 exact ⟨hz, its', n', r, e⟩
def rSetL : V → V → V → Hp → (Hp → Prop) → Prop := fun o i v H Q => ∃ p xs k j, o = .ref p ∧ i = .int k ∧ H p = some (.lst xs) ∧ ixN xs.length k = some j ∧ Q (upd H p (.lst (xs.set j v)))
theorem set_list : PSet X rSetL := by
 intro pins s σ H o i v ov iv u Q I ro ri rv h
 obtain ⟨p, xs, k, j, rfl, rfl, hp, hj, q⟩ := h
 cases ro
 obtain ⟨t, rfl⟩ := ri
 obtain ⟨its, n, r, ho, hz⟩ := I.lst hp
 obtain ⟨h1, h2, h3, h4⟩ := ixN_seq hj
 have hl := r.length
 have hn := line63
 have I' : Inv X pins σ (upd H p (.lst (xs.set j v))) { s with heap := s.heap.update p (Obj.mapSeq (·.setIfInBounds j u)) } :=
  I.lstUpd hp ho (mapSeq_set its n j u) (r.set rv j) (by rw [List.length_set]; exact hz) s.toks
 by_cases h0 : 0 ≤ k
 ·have hk : k.toNat = j := by
   rw [seqIndex_of h0 h4] at h1
   exact Option.some.inj h1
  exact PySem.W.ki_setAt ho h0 (by omega) (by rw [List.size_toArray, ← hl]; exact h4) (by rw [hk]; exact ⟨_, I', q⟩)
 ·have hk : (k + (its.toArray.size : Int)).toNat = j := by
   rw [seqIndex_neg (by omega) h3] at h1
   rw [List.size_toArray, ← hl]
   exact Option.some.inj h1
  exact PySem.W.ki_setBack ho (by omega) (by rw [List.size_toArray, ← hl]; exact h3) (by omega) (by rw [hk]; exact ⟨_, I', q⟩)
theorem slice_bounds (lo hi : Option Int) (n : Nat) : (sliceBounds lo hi none n).1 = ((HT.sIx n 0 lo : Nat) : Int) ∧ (sliceBounds lo hi none n).2.1 = ((HT.sIx n n hi : Nat) : Int) ∧ (sliceBounds lo hi none n).2.2 = 1 := by
 refine ⟨?_, ?_, rfl⟩
 ·cases lo with
  | none => simp [sliceBounds, HT.sIx]
  | some i =>
   simp only [sliceBounds, HT.sIx, Option.getD_none, show (1 : Int) > 0 by decide, if_true]
   by_cases h : i < 0
   ·simp only [h, if_true] <;> omega
   ·simp only [h, if_false] <;> omega
 ·cases hi with
  | none => simp [sliceBounds, HT.sIx]
  | some i =>
   simp only [sliceBounds, HT.sIx, Option.getD_none, show (1 : Int) > 0 by decide, if_true]
   by_cases h : i < 0
   ·simp only [h, if_true] <;> omega
   ·simp only [h, if_false] <;> omega
theorem slicePick_cut (its : List Value) (lo hi : Option Int) : slicePick its.toArray lo hi none = ((its.drop (HT.sIx its.length 0 lo)).take (HT.sIx its.length its.length hi - HT.sIx its.length 0 lo)).toArray := by
 obtain ⟨h1, h2, h3⟩ := slice_bounds lo hi its.toArray.size
 unfold slicePick
 rw [h1, h2, h3]
 simp only [sliceRange_one, pick_run, List.size_toArray] <;> rfl
def rSlL (K : PySem.W.Frag) : V → Option Int → Option Int → Hp → VK → Prop := fun x lo hi H Q => ∃ a xs, x = .ref a ∧ SqL K H a xs ∧ ∀ p, H p = none → Q (.ref p) (upd H p (.lst (cutV xs lo hi)))
theorem sl_list : SlR X (rSlL X.K) := by
 intro pins s σ H x v vl vu lo hi sl Q I rx hs pl pu h
 obtain ⟨a, xs, rfl, hx, q⟩ := h
 cases rx
 obtain ⟨its, r, ht, hz⟩ := I.list hx
 have hlen := r.length
 refine ⟨"list", _, slot_list_getitem.lookup, ht.isList.typeIs, ?_⟩
 refine wpAny_getItem_list_slice ht.isList hs pl pu .none (by simp) ?_ (by rw [List.size_toArray] <;> omega)
 rw [slicePick_cut, ← hlen]
 refine ⟨.ref s.heap.objs.size, _, I.laid (t' := s.toks) (o := .lst (cutV xs lo hi)) (fun b ob q => Heap.get?_push_of_some _ q) (Nat.le_refl _) ?_, rfl, q _ (I.hok.fresh (Nat.le_refl _))⟩
 exact ⟨Nat.le_trans (cutV_length xs lo hi) hz, _, 0, (r.drop (HT.sIx xs.length 0 lo)).take (HT.sIx xs.length xs.length hi - HT.sIx xs.length 0 lo), Heap.get?_push_size _ rfl⟩
def flatV : V → Bool
 | .non => true
 | .bl _ => true
 | .int _ => true
 | .str _ => true
 | _ => false
def eqV : V → V → Bool
 | .non, .non => true
 | .bl a, .bl b => a == b
 | .bl a, .int b => (if a then 1 else 0) == b
 | .int a, .bl b => a == (if b then 1 else 0)
 | .int a, .int b => a == b
 | .str a, .str b => a == b
 | _, _ => false
theorem eqAt_V {A : Around} {s : Shared} {y x : V} {u v : Value} (ry : RelV y u) (rx : RelV x v) (fy : flatV y = true) (fx : flatV x = true) : SeqAt.EqAt A s u v (eqV y x) := by
 cases y with
 | non =>
  cases ry
  cases x with
  | non => cases rx; exact SeqAt.EqAt.same _
  | bl b => cases rx; exact SeqAt.EqAt.none_bool b
  | int b => obtain ⟨t, rfl⟩ := rx; exact SeqAt.EqAt.none_int b t
  | str b => obtain ⟨t, rfl⟩ := rx; exact SeqAt.EqAt.none_str b t
  | _ => exact absurd (show false = true from fx) Bool.false_ne_true
 | bl a =>
  cases ry
  cases x with
  | non => cases rx; exact SeqAt.EqAt.bool_none a
  | bl b => cases rx; exact SeqAt.EqAt.bool_bool a b
  | int b => obtain ⟨t, rfl⟩ := rx; exact SeqAt.EqAt.bool_int a b t
  | str b => obtain ⟨t, rfl⟩ := rx; exact SeqAt.EqAt.bool_str a b t
  | _ => exact absurd (show false = true from fx) Bool.false_ne_true
 | int a =>
  obtain ⟨t', rfl⟩ := ry
  cases x with
  | non => cases rx; exact SeqAt.EqAt.int_none a t'
  | bl b => cases rx; exact SeqAt.EqAt.int_bool a t' b
  | int b => obtain ⟨t, rfl⟩ := rx; exact SeqAt.EqAt.int_int a t' b t
  | str b => obtain ⟨t, rfl⟩ := rx; exact SeqAt.EqAt.int_str a t' b t
  | _ => exact absurd (show false = true from fx) Bool.false_ne_true
 | str a =>
  obtain ⟨t', rfl⟩ := ry
  cases x with
  | non => cases rx; exact SeqAt.EqAt.str_none a t'
  | bl b => cases rx; exact SeqAt.EqAt.str_bool a t' b
  | int b => obtain ⟨t, rfl⟩ := rx; exact SeqAt.EqAt.str_int a t' b t
  | str b => obtain ⟨t, rfl⟩ := rx; exact SeqAt.EqAt.str_str a t' b t
  | _ => exact absurd (show false = true from fx) Bool.false_ne_true
 | _ => exact absurd (show false = true from fy) Bool.false_ne_true
def eqU (x : V) (u : Value) : Bool := match u with
 | .none => eqV .non x
 | .bool b => eqV (.bl b) x
 | .int i _ => eqV (.int i) x
 | .str z _ => eqV (.str z) x
 | _ => false
theorem eqU_of {x y : V} {u : Value} (r : RelV y u) (f : flatV y = true) : eqU x u = eqV y x := by
 cases y with
 | non => cases r; rfl
 | bl b => cases r; rfl
 | int i => obtain ⟨t, rfl⟩ := r; rfl
 | str z => obtain ⟨t, rfl⟩ := r; rfl
 | _ => exact absurd (show false = true from f) Bool.false_ne_true
theorem any_eqU {x : V} : ∀ {xs : List V} {us : List Value}, Vals xs us → xs.all flatV = true → us.any (eqU x) = xs.any fun y => eqV y x
 | _, _, .nil, _ => rfl
 | y :: xs, u :: us, .cons r t, f => by
  rw [List.all_cons, Bool.and_eq_true] at f
  rw [List.any_cons, List.any_cons, eqU_of r f.1, any_eqU t f.2]
theorem mem_eqAt {A : Around} {s : Shared} {x : V} {v : Value} (rx : RelV x v) (fx : flatV x = true) : ∀ {xs : List V} {us : List Value}, Vals xs us → xs.all flatV = true → ∀ u ∈ us, SeqAt.EqAt A s u v (eqU x u)
 | _, _, .nil, _ => fun u hu => by cases hu
 | y :: xs, u :: us, .cons r t, f => fun u' hu => by
  rw [List.all_cons, Bool.and_eq_true] at f
  rcases List.mem_cons.mp hu with rfl | hu
  ·rw [eqU_of r f.1]; exact eqAt_V r rx f.1 fx
  ·exact mem_eqAt rx fx t f.2 u' hu
def inV (x : V) (xs : List V) : Bool := xs.any fun y => eqV y x
def rIn (K : PySem.W.Frag) (neg : Bool) : R2 := fun x y H Q => ∃ p xs, y = .ref p ∧ (SqL K H p xs ∨ SqT K H p xs) ∧ flatV x = true ∧ xs.all flatV = true ∧ Q (.bl (if neg then !inV x xs else inV x xs)) H
theorem op_notIn_seq : OpR X (compareOp .NotIn) (rIn X.K true) := by
 intro pins s σ H x y v u Q I rx ry h
 obtain ⟨p, xs, rfl, hq, fx, fs, q⟩ := h
 cases ry
 rcases hq with hq | hq
 ·obtain ⟨its, r, pl, hz⟩ := I.list hq
  refine SeqAt.notIn_listAt (eqU x) pl.isList (fun w hw => mem_eqAt rx fx r fs w (by simpa using hw)) ⟨.bl _, H, I, rfl, ?_⟩
  rw [show its.toArray.any (eqU x) = its.any (eqU x) by simp, any_eqU r fs]
  exact q
 ·obtain ⟨its, r, pl, hz⟩ := I.tuple hq
  refine SeqAt.notIn_tupleAt (eqU x) pl (fun w hw => mem_eqAt rx fx r fs w (by simpa using hw)) ⟨.bl _, H, I, rfl, ?_⟩
  rw [show its.toArray.any (eqU x) = its.any (eqU x) by simp, any_eqU r fs]
  exact q
theorem call_len_seq : CallR X (.builtin "len") (fun xs H Q => ∃ p ys, xs = [.ref p] ∧ (SqL X.K H p ys ∨ SqT X.K H p ys) ∧ Q (.int ys.length) H) := by
 intro pins s σ H xs us Q I r h
 obtain ⟨p, ys, rfl, hq, q⟩ := h
 obtain ⟨u, rfl, rx⟩ := vals1 r
 cases rx
 have hn := line63
 rcases hq with hq | hq
 ·obtain ⟨its, r', pl, hz⟩ := I.list hq
  have hlen := r'.length
  exact Calls.call_len_list pl.isList (by simp only [List.size_toArray] <;> omega) ⟨.int ys.length, H, I.tok _, ⟨s.toks + 1, by rw [List.size_toArray, hlen]⟩, q⟩
 ·obtain ⟨its, r', pl, hz⟩ := I.tuple hq
  have hlen := r'.length
  exact len_tuple pl (by simp only [List.size_toArray] <;> omega) ⟨.int ys.length, H, I.tok _, ⟨s.toks + 1, by rw [List.size_toArray, hlen]⟩, q⟩
theorem CallR.or {f : Value} {r r' : List V → Hp → VK → Prop} (h : CallR X f r) (h' : CallR X f r') : CallR X f (fun xs H Q => r xs H Q ∨ r' xs H Q) := by
 intro pins s σ H xs us Q I rs q
 rcases q with q | q
 ·exact h pins s σ H xs us Q I rs q
 ·exact h' pins s σ H xs us Q I rs q
theorem call_list_of : CallR X (.type "list") (fun xs H Q => ∃ p ys, xs = [.ref p] ∧ (SqL X.K H p ys ∨ SqT X.K H p ys) ∧ ∀ l, H l = none → Q (.ref l) (upd H l (.lst ys))) := by
 intro pins s σ H xs us Q I r h
 obtain ⟨p, ys, rfl, hq, q⟩ := h
 obtain ⟨u, rfl, rx⟩ := vals1 r
 cases rx
 have fin : ∀ (its : List Value), Vals ys its → ys.length ≤ sizeLine → ∀ (h' : Heap) (c' : Nat), (∀ b o', s.heap.get? b = some o' → h'.get? b = some o') →
   h'.get? s.heap.objs.size = some { cls := .type "list", dict := none, data := .seq its.toArray c', slots := #[] } → EP X pins σ Q (.ref s.heap.objs.size) { s with heap := h' } := fun its r' hz h' c' kp e =>
  ⟨.ref s.heap.objs.size, _, I.laid (t' := s.toks) kp (Nat.le_refl _) (show ObjOk X.prog X.w _ h' _ (.lst ys) from ⟨hz, its, c', r', e⟩), rfl, q _ (I.hok.fresh (Nat.le_refl _))⟩
 rcases hq with hq | hq
 ·obtain ⟨its, r', pl, hz⟩ := I.list hq
  have hlen := r'.length
  obtain ⟨o, ho, hc, n, hd⟩ := pl.isList
  exact call_list_seq p (.inl rfl) ho hc hd (fun h' c' kp e => fin its r' hz h' c' kp e) (by simp only [List.size_toArray] <;> omega)
 ·obtain ⟨its, r', pl, hz⟩ := I.tuple hq
  have hlen := r'.length
  obtain ⟨o, ho, hc, n, hd⟩ := pl
  exact call_list_seq p (.inr rfl) ho hc hd (fun h' c' kp e => fin its r' hz h' c' kp e) (by simp only [List.size_toArray] <;> omega)
theorem call_tuple_of : CallR X (.type "tuple") (fun xs H Q => ∃ p ys, xs = [.ref p] ∧ ((SqL X.K H p ys ∧ ∀ l, H l = none → Q (.ref l) (upd H l (.tup ys))) ∨ (SqT X.K H p ys ∧ Q (.ref p) H))) := by
 intro pins s σ H xs us Q I r h
 obtain ⟨p, ys, rfl, h⟩ := h
 obtain ⟨u, rfl, rx⟩ := vals1 r
 cases rx
 rcases h with ⟨hq, q⟩ | ⟨hq, q⟩
 ·obtain ⟨its, r', pl, hz⟩ := I.list hq
  have hlen := r'.length
  refine call_tuple_list pl.isList (fun h' kp => ?_) (by simp only [List.size_toArray] <;> omega)
  have I1 : Inv X pins σ H { s with heap := h' } := I.kept (t' := s.toks) kp
  have I2 : Inv X pins σ (upd H h'.objs.size (.tup ys)) { s with heap := h'.push { cls := .type "tuple", data := .seq its.toArray } } :=
   I1.laid (t' := s.toks) (fun b o e => Heap.get?_push_of_some _ e) (Nat.le_refl _) (show ObjOk X.prog X.w _ _ _ (.tup ys) from ⟨hz, its, r', IsTupN.new _ _⟩)
  exact ⟨.ref h'.objs.size, _, I2, rfl, q _ (I1.hok.fresh (Nat.le_refl _))⟩
 ·obtain ⟨its, r', pl, hz⟩ := I.tuple hq
  exact call_tuple_same pl ⟨.ref p, H, I, rfl, q⟩
def tyV (K : PySem.W.Frag) (T : String) (x : V) (H : Hp) : Prop := match x with
 | .str _ => T = "str"
 | .int _ => T = "int"
 | .ref p => (T = "list" ∧ ∃ xs, SqL K H p xs) ∨ (T = "tuple" ∧ ∃ o, K.lookup p = some o ∧ o.cls = .type "tuple" ∧ o.dict = none) ∨
   (T = "dict" ∧ ((∃ kvs, H p = some (.dK kvs)) ∨ ∃ kvs, H p = some (.dT kvs))) ∨ (T = "set" ∧ ∃ S n, H p = some (.set S n))
 | _ => False
theorem tyV_is {pins : List (Addr × Obj)} {σ : St} {H : Hp} {s : Shared} {T : String} {x : V} {v : Value} (I : Inv X pins σ H s) (r : RelV x v) (ty : tyV X.K T x H) :
  s.TypeIs v T ∧ ∀ a, v = .ref a → ∃ ob, s.heap.get? a = some ob ∧ ob.dict = none := by
 cases x with
 | str z =>
  obtain ⟨t, rfl⟩ := r
  cases (show T = "str" from ty)
  exact ⟨typeIs_str s z t, fun _ e => nomatch e⟩
 | int i =>
  obtain ⟨t, rfl⟩ := r
  cases (show T = "int" from ty)
  exact ⟨typeIs_int s i t, fun _ e => nomatch e⟩
 | ref p =>
  cases r
  rcases ty with ⟨rfl, xs, hq⟩ | ⟨rfl, o, hk, hc, hd⟩ | ⟨rfl, hk⟩ | ⟨rfl, S, n, hk⟩
  ·obtain ⟨its, _, pl, _⟩ := I.list hq
   refine ⟨pl.isList.typeIs, fun a e => ?_⟩
   cases e
   obtain ⟨o, n, e, c, hd, _⟩ := pl
   exact ⟨o, e, hd⟩
  ·refine ⟨⟨o, I.kIn p o hk, hc⟩, fun a e => ?_⟩
   cases e
   exact ⟨o, I.kIn _ o hk, hd⟩
  ·have z : ∃ o, s.heap.get? p = some o ∧ o.ExactDict := by
    rcases hk with ⟨kvs, hk⟩ | ⟨kvs, hk⟩
    ·obtain ⟨_, _, _, _, o, _, _, e, ex, _⟩ := I.hok p _ hk
     exact ⟨o, e, ex⟩
    ·obtain ⟨_, _, _, _, o, _, _, e, ex, _⟩ := I.hok p _ hk
     exact ⟨o, e, ex⟩
   obtain ⟨o, e, ex⟩ := z
   refine ⟨⟨o, e, ex.1⟩, fun a e2 => ?_⟩
   cases e2
   exact ⟨o, e, ex.2.1⟩
  ·obtain ⟨o, _, _, _, e, ex, _⟩ := I.hok p _ hk
   refine ⟨⟨o, e, ex.1⟩, fun a e2 => ?_⟩
   cases e2
   exact ⟨o, e, ex.2.1⟩
 | _ => exact False.elim ty
def tBM0 (K : PySem.W.Frag) (T : String) (r : V → List V → Hp → VK → Prop) (to : TE) : TE := fun σ H Q => to σ H fun x H1 => tyV K T x H1 ∧ r x [] H1 Q
def tBM (K : PySem.W.Frag) (T : String) (r : V → List V → Hp → VK → Prop) (to : TE) (t : TA) : TE := fun σ H Q => to σ H fun x H1 => tyV K T x H1 ∧ t σ H1 fun xs H2 => r x xs H2 Q
variable {o e : Expr} {es : List Expr} {to : TE} {t : TA} {name : Str} {apos cpos : Pos} {T id : String} {r : V → List V → Hp → VK → Prop}
theorem pe_bm0 (pa : PlainAttrs T) (slot : Slot T name id) (hty : typeOf (.builtin id) = pure (.type "method_descriptor")) (hm : MtR X id r) (ho : PE X o to)
  (hbase : attributeBase o name X.env (eval o X.env) = eval o X.env := by rfl) (hline : (apos.endLine == cpos.line) = true := by rfl) : PE X (.Call (.Attribute o name apos) [] [] cpos) (tBM0 X.K T r to) := by
 intro pins s σ H Q I h
 refine wpAny_Call_method0_late hbase hline (thn (ho pins s σ H _ I h) fun v s1 ⟨x, H1, I1, r1, ty, q1⟩ => ?_)
 obtain ⟨h1, h2⟩ := tyV_is I1 r1 ty
 exact ⟨T, id, pa, slot, hty, h1, h2, Calls.callWith_builtin rfl (PySem.evalArgs_none (hm pins s1 σ H1 x [] v [] Q I1 r1 .nil q1))⟩
theorem pe_bm (pa : PlainAttrs T) (slot : Slot T name id) (hty : typeOf (.builtin id) = pure (.type "method_descriptor")) (hm : MtR X id r) (ho : PE X o to) (ha : PA X (e :: es) t)
  (hbase : attributeBase o name X.env (eval o X.env) = eval o X.env := by rfl)
  (hfew : ((backTo cpos (starEach (e :: es) X.env)).all (fun x => !x.1) && (backToKw cpos (keywordEach [] X.env)).all (fun x => x.1.isSome)
   && decide ((e :: es).length + ([] : List Keyword).length + (if ([] : List Keyword).isEmpty then 0 else 1) < 30)) = true := by rfl)
  (hline : (apos.endLine == cpos.line) = true := by rfl) (hs : starEach (e :: es) X.env = (false, eval e X.env) :: starEach es X.env := by rfl) (hplain : (backTo cpos (starEach es X.env)).any (·.1) = false := by rfl) :
  PE X (.Call (.Attribute o name apos) (e :: es) [] cpos) (tBM X.K T r to t) := by
 intro pins s σ H Q I h
 refine wpAny_Call_method_late hbase hfew hline rfl (thn (ho pins s σ H _ I h) fun v s1 ⟨x, H1, I1, r1, ty, q1⟩ => ?_)
 obtain ⟨h1, h2⟩ := tyV_is I1 r1 ty
 refine ⟨T, id, pa, slot, hty, h1, h2, ?_⟩
 have hA := ha cpos pins s1 σ H1 _ I1 q1
 rw [hs] at hA ⊢
 refine Calls.callWith_builtin (by show (false || (backTo cpos (starEach es X.env)).any (·.1)) = false; rw [hplain] <;> rfl) (Calls.evalArgs_plain ?_)
 exact thn hA fun us s2 ⟨vs, H2, I2, r2, q2⟩ => hm pins s2 σ H2 x vs v us Q I2 r1 r2 q2
end
end L2
namespace L2
open PySem PySem.Spec PyProof.Rows
def MtM (X : Cx) (id : String) (r : V → List V → Hp → VK → Prop) : Prop :=
 ∀ (pins : List (Addr × Obj)) (s : Shared) (σ : St) (H : Hp) (x : V) (xs : List V) (v : Value) (us : List Value) (Q : VK), Inv X pins σ H s → RelV x v → Vals xs us → r x xs H Q →
  wpAny (model X.prog X.w) X.A (call (.builtin id) (v :: us)) (EP X pins σ Q) X.xe s
theorem Vals.one : ∀ {x : V} {us : List Value}, Vals [x] us → ∃ u, us = [u] ∧ RelV x u
 | _, _, .cons r .nil => ⟨_, rfl, r⟩
theorem Vals.two : ∀ {x y : V} {us : List Value}, Vals [x, y] us → ∃ u v, us = [u, v] ∧ RelV x u ∧ RelV y v
 | _, _, _, .cons r (.cons q .nil) => ⟨_, _, rfl, r, q⟩
theorem Vals.zero : ∀ {us : List Value}, Vals [] us → us = []
 | _, .nil => rfl
theorem Vals.dropLast {xs : List V} {us : List Value} (h : Vals xs us) : Vals xs.dropLast us.dropLast := by
 induction h with
 | nil => exact .nil
 | cons r t ih =>
  cases t with
  | nil => exact .nil
  | cons q t' => exact .cons r ih
theorem Vals.eraseIdx : ∀ {xs : List V} {us : List Value} (i : Nat), Vals xs us → Vals (xs.eraseIdx i) (us.eraseIdx i)
 | _, _, _, .nil => .nil
 | _, _, 0, .cons _ t => t
 | _, _, i + 1, .cons r t => .cons r (Vals.eraseIdx i t)
theorem Vals.reverse {xs : List V} {us : List Value} (h : Vals xs us) : Vals xs.reverse us.reverse := by
 induction h with
 | nil => exact .nil
 | cons r t ih => rw [List.reverse_cons, List.reverse_cons]; exact Vals.append ih (.cons r .nil)
theorem erase_last {α : Type} (l : List α) : l.eraseIdx (l.length - 1) = l.dropLast := by
 induction l with
 | nil => rfl
 | cons a r ih =>
  cases r with
  | nil => rfl
  | cons b r =>
   have e : (a :: b :: r).length - 1 = ((b :: r).length - 1) + 1 := by
    have h1 : (a :: b :: r).length = r.length + 2 := rfl
    have h2 : (b :: r).length = r.length + 1 := rfl
    omega
   rw [e, List.eraseIdx_cons_succ, ih]
   all_goals rfl
theorem len_erase {α : Type} : ∀ (l : List α) (i : Nat), (l.eraseIdx i).length ≤ l.length
 | [], _ => Nat.le_refl _
 | _ :: _, 0 => Nat.le_succ _
 | _ :: r, i + 1 => Nat.succ_le_succ (len_erase r i)
section
variable {X : Cx} {pins : List (Addr × Obj)} {σ : St} {H : Hp} {s : Shared} {l b : Addr} {xs ys zs : List V}
theorem Inv.lset {its its' : List Value} {n : Nat} {f : Array Value → Array Value} {t' : Nat} (I : Inv X pins σ H s) (hH : H l = some (.lst xs))
  (e : s.heap.get? l = some { cls := .type "list", data := .seq its.toArray n }) (hf : f its.toArray = its'.toArray) (hv : Vals ys its') (hz : ys.length ≤ sizeLine) :
  Inv X pins σ (upd H l (.lst ys)) { s with heap := s.heap.update l (Obj.mapSeq f), toks := t' } := by
 have q := PySem.IsL.update e f
 rw [hf] at q
 refine I.write (x := l) (e := l) (by rw [hH]; exact trivial) (.inl rfl) (fun b' u hb hu => (Heap.get?_update_other s.heap (Obj.mapSeq f) (Ne.symm hb)).trans hu) ⟨_, q⟩ ?_
 exact ⟨hz, its', _, hv, q⟩
theorem Inv.lnew {its : List Value} {t' : Nat} (I : Inv X pins σ H s) (hv : Vals ys its) (hz : ys.length ≤ sizeLine) :
  Inv X pins σ (upd H s.heap.objs.size (.lst ys)) { s with heap := s.heap.push { cls := .type "list", data := .seq its.toArray }, toks := t' } :=
 I.laid (fun _ _ q => Heap.get?_push_of_some _ q) (Nat.le_refl _) ⟨hz, its, 0, hv, Heap.get?_push_size _ rfl⟩
theorem Inv.fresh (I : Inv X pins σ H s) : H s.heap.objs.size = none := I.hok.fresh (Nat.le_refl _)
theorem Inv.lstM (I : Inv X pins σ H s) (hH : H l = some (.lst xs)) : xs.length ≤ sizeLine ∧ ∃ (its : List Value) (n : Nat), Vals xs its ∧ xs.length = its.length ∧ s.heap.get? l = some { cls := .type "list", data := .seq its.toArray n } := by
 obtain ⟨z, its, n, r, e⟩ := I.hok l _ hH
 exact ⟨z, its, n, r, r.length, e⟩
theorem notLongL {n : Nat} (h : n ≤ sizeLine) : Builtin.List.listTooLong n = false := by
 unfold Builtin.List.listTooLong
 exact decide_eq_false (by omega)
end
section
variable {X : Cx}
def rAppend : V → List V → Hp → VK → Prop := fun x vs H Q => ∃ l xs y, x = .ref l ∧ vs = [y] ∧ H l = some (.lst xs) ∧ xs.length < sizeLine ∧ Q .non (upd H l (.lst (xs ++ [y])))
theorem mt_append : MtM X "list.append" rAppend := by
 intro pins s σ H x vs v us Q I rx rv h
 obtain ⟨l, xs, y, rfl, rfl, hH, hz, q⟩ := h
 cases rx
 obtain ⟨u, rfl, ru⟩ := rv.one
 obtain ⟨z, its, n, r, hl, e⟩ := I.lstM hH
 refine call_meets F.slot_list_append ⟨_, e, rfl⟩ F.entry_list_append (F.args_list_append_2 _ _) (PySem.list_append l its.toArray n u (by rw [List.size_toArray]; omega)) ⟨e, ?_⟩
 refine ⟨.non, _, I.lset (its' := its ++ [u]) hH e (by simp) (r.append (.cons ru .nil)) ?_, rfl, q⟩
 rw [List.length_append, List.length_singleton]
 omega
def rExtend : V → List V → Hp → VK → Prop := fun x vs H Q => ∃ l b xs zs, x = .ref l ∧ vs = [.ref b] ∧ H l = some (.lst xs) ∧ H b = some (.lst zs) ∧ xs.length + zs.length ≤ sizeLine ∧ Q .non (upd H l (.lst (xs ++ zs)))
theorem mt_extend : MtM X "list.extend" rExtend := by
 intro pins s σ H x vs v us Q I rx rv h
 obtain ⟨l, b, xs, zs, rfl, rfl, hH, hB, hz, q⟩ := h
 cases rx
 obtain ⟨u, rfl, ru⟩ := rv.one
 cases ru
 obtain ⟨z, its, n, r, hl, e⟩ := I.lstM hH
 obtain ⟨z2, its2, n2, r2, hl2, e2⟩ := I.lstM hB
 have hsz : its.toArray.size + its2.toArray.size ≤ sizeLine := by rw [List.size_toArray, List.size_toArray]; omega
 have hlong : ¬ (!its.toArray.isEmpty && Builtin.List.listTooLong (its.toArray.size + its2.toArray.size)) = true := by
  rw [notLongL hsz, Bool.and_false]
  exact Bool.false_ne_true
 refine call_meets F.slot_list_extend ⟨_, e, rfl⟩ F.entry_list_extend (F.args_list_extend_2 _ _)
  (AutoSeq1.list_extend_list_list_0 l its.toArray n b its2.toArray n2 hlong (by rw [List.size_toArray]; omega) (by omega)) ⟨e, e2, ?_⟩
 refine ⟨.non, _, I.lset (its' := its ++ its2) hH e (by simp) (r.append r2) ?_, rfl, q⟩
 rw [List.length_append]
 omega
def rPop : V → List V → Hp → VK → Prop := fun x vs H Q => ∃ l xs y, x = .ref l ∧ vs = [] ∧ H l = some (.lst xs) ∧ xs[xs.length - 1]? = some y ∧ Q y (upd H l (.lst xs.dropLast))
theorem mt_pop : MtM X "list.pop" rPop := by
 intro pins s σ H x vs v us Q I rx rv h
 obtain ⟨l, xs, y, rfl, rfl, hH, hy, q⟩ := h
 cases rx
 have hus := rv.zero
 subst hus
 obtain ⟨z, its, n, r, hl, e⟩ := I.lstM hH
 obtain ⟨u, hu, ru⟩ := r.get hy
 have hy' : its.toArray[its.toArray.size - 1]? = some u := by
  show its.toArray[its.length - 1]? = some u
  rw [← Array.getElem?_toList, ← hl]
  exact hu
 refine call_meets F.slot_list_pop ⟨_, e, rfl⟩ F.entry_list_pop (F.args_list_pop_1 _) (MeetsSeq.list_pop_last l its.toArray n u hy' (by rw [List.size_toArray]; omega)) ⟨e, ?_⟩
 refine ⟨y, _, I.lset (its' := its.dropLast) hH e ?_ r.dropLast ?_, ru, q⟩
 ·show its.toArray.eraseIdxIfInBounds (its.toArray.size - 1) = its.dropLast.toArray
  rw [List.size_toArray, List.eraseIdxIfInBounds_toArray, erase_last]
 ·rw [List.length_dropLast]
  omega
def rPopAt : V → List V → Hp → VK → Prop := fun x vs H Q => ∃ l xs i k y, x = .ref l ∧ vs = [.int i] ∧ H l = some (.lst xs) ∧ -(2 ^ 63) ≤ i ∧ i < 2 ^ 63 ∧ seqIndex? i xs.length = some k ∧ xs[k]? = some y ∧ Q y (upd H l (.lst (xs.eraseIdx k)))
theorem mt_popAt : MtM X "list.pop" rPopAt := by
 intro pins s σ H x vs v us Q I rx rv h
 obtain ⟨l, xs, i, k, y, rfl, rfl, hH, h1, h2, hk, hy, q⟩ := h
 cases rx
 obtain ⟨u, rfl, ru⟩ := rv.one
 obtain ⟨t, rfl⟩ := ru
 obtain ⟨z, its, n, r, hl, e⟩ := I.lstM hH
 obtain ⟨w, hw, rw'⟩ := r.get hy
 refine call_meets F.slot_list_pop ⟨_, e, rfl⟩ F.entry_list_pop (F.args_list_pop_2 _ _)
  (MeetsSeq.list_pop_at l its.toArray n i t k w (fitsIndex_both h1 h2) (by rw [List.size_toArray, ← hl]; exact hk) (by rw [← Array.getElem?_toList]; exact hw) (by rw [List.size_toArray]; omega)) ⟨e, ?_⟩
 refine ⟨y, _, I.lset (its' := its.eraseIdx k) hH e ?_ (r.eraseIdx k) ?_, rw', q⟩
 ·show its.toArray.eraseIdxIfInBounds k = (its.eraseIdx k).toArray
  rw [List.eraseIdxIfInBounds_toArray]
 ·have := len_erase xs k
  omega
def rCat : R2 := fun x y H Q => ∃ l b xs zs, x = .ref l ∧ y = .ref b ∧ H l = some (.lst xs) ∧ H b = some (.lst zs) ∧ xs.length + zs.length ≤ sizeLine ∧ ∀ p, H p = none → Q (.ref p) (upd H p (.lst (xs ++ zs)))
theorem op_cat : OpR X (binaryOp .Add) rCat := by
 intro pins s σ H x y v u Q I rx ry h
 obtain ⟨l, b, xs, zs, rfl, rfl, hH, hB, hz, q⟩ := h
 cases rx
 cases ry
 obtain ⟨z, its, n, r, hl, e⟩ := I.lstM hH
 obtain ⟨z2, its2, n2, r2, hl2, e2⟩ := I.lstM hB
 refine PySem.P.add_list e e2 ?_ (by rw [List.size_toArray, List.size_toArray]; omega)
 have ea : its.toArray ++ its2.toArray = (its ++ its2).toArray := by simp
 rw [ea]
 exact ⟨.ref _, _, I.lnew (t' := s.toks) (r.append r2) (by rw [List.length_append]; omega), rfl, q _ I.fresh⟩
end
section
variable {prog : Program} {w : World} {A : Around} {E : Value → Shared → Prop} {s : Shared}
theorem bounds_run {a c n : Nat} (hac : a ≤ c) (hc : c ≤ n) : sliceBounds (some (a : Int)) (some (c : Int)) none n = ((a : Int), (c : Int), 1) := by
 simp only [sliceBounds, Option.getD_none]
 have h1 : ¬ ((a : Int) < 0) := by omega
 have h2 : ¬ ((c : Int) < 0) := by omega
 simp only [h1, h2, if_false, show (1 : Int) > 0 by decide, if_true]
 congr 1
 ·omega
 ·congr 1; omega
set_option maxRecDepth 100000 in
theorem setItem_slice {l b sl : Addr} {items new : Array Value} {n n2 : Nat} {vl vu : Value} {a c : Nat} {Q : Unit → Shared → Prop}
  (e : s.heap.get? l = some { cls := .type "list", data := .seq items n }) (e2 : s.heap.get? b = some { cls := .type "list", data := .seq new n2 }) (hne : l ≠ b)
  (hs : s.heap.IsSliceOf sl vl vu .none) (pl : IsPart vl (some (a : Int))) (pu : IsPart vu (some (c : Int))) (hac : a ≤ c) (hc : c ≤ items.size)
  (hsz : items.size + new.size ≤ sizeLine) (h : Q () { s with heap := s.heap.update l (Obj.mapSeq fun xs => xs.extract 0 a ++ new ++ xs.extract c xs.size) }) :
  wpAny (model prog w) A (setItem (.ref l) (.ref sl) (.ref b)) Q E s := by
 have hl : s.heap.IsList l items := PySem.IsL.isList e
 have hb : s.heap.IsList b new := PySem.IsL.isList e2
 obtain ⟨os, hos, hcs, hds⟩ := id hs
 have hTs : s.TypeIs (.ref sl) "slice" := ⟨os, hos, hcs⟩
 have hstep : ¬ ((rawPart none == rawInt 0) = true) := Bool.false_ne_true
 have hsame : Builtin.List.listSameRef (.ref l) (.ref b) = false := by
  unfold Builtin.List.listSameRef
  exact beq_eq_false_iff_ne.mpr hne
 have hmax : (max (a : Int) (c : Int)).toNat = c := by omega
 have hz' : ((fun xs : Array Value => xs.extract 0 a ++ new ++ xs.extract c xs.size) items).size ≤ sizeLine + 1 := by
  simp only [Array.size_append, Array.size_extract]
  omega
 unfold setItem
 try with_reducible refine wpAny_holding ?_
 first | refine wpAny_bind (wpAny_pure ?_) | skip
 refine wpAny_bind (wpAny_sequenceKey hl.typeIs (by decide) ?_)
 refine wpAny_bind (wpAny_callSpecial?_slot (name := Str.ofString "__setitem__") hl.typeIs slot_list_setitem
  (wpAny_call_entry slot_list_setitem hl.typeIs entry_list_setitem ?_ (args_list_setitem _ _ _)))
 show wpAny _ _ (Builtin.List.listSubscript? (.ref sl) >>= _) _ _ s
 refine wpAny_bind ?_
 unfold Builtin.List.listSubscript?
 refine wpAny_bind (wpAny_specialOf hTs slice_no_index ?_)
 simp only [Option.isNone_none, if_true]
 refine wpAny_pure ?_
 show wpAny _ _ (typeOf (.ref sl) >>= _) _ _ s
 refine wpAny_bind (wpAny_typeOf hTs ?_)
 first
  | rw [if_neg (by decide)]
  | refine PySem.W.KFB.if_not (by decide) ?_
 rw [listSliceParts_eq]
 refine wpAny_bind (wpAny_bind (wpAny_field hos hds (x := .none) rfl (wpAny_bind (wpAny_listPart .none ?_))))
 rw [if_neg hstep]
 refine wpAny_bind (wpAny_field hos hds (x := vl) rfl (wpAny_bind (wpAny_listPart pl ?_)))
 refine wpAny_bind (wpAny_field hos hds (x := vu) rfl (wpAny_bind (wpAny_listPart pu (wpAny_pure ?_))))
 first
  | simp only [hsame, Bool.false_eq_true, if_false]
  | refine PySem.W.KFB.if_not hsame ?_
  | (dsimp only
     rw [if_neg (by rw [hsame]; exact Bool.false_ne_true)])
 refine wpAny_bind (m := Builtin.List.listAllItems (.ref b) "must assign iterable to extended slice") ?_
 unfold Builtin.List.listAllItems
 refine wpAny_bind (wpAny_typeOf hb.typeIs ?_)
 first
  | refine PySem.W.KFB.if_so (by decide) ?_
  | rw [if_pos (by decide)]
  | simp only [beq_self_eq_true, Bool.true_or, if_true]
 unfold Builtin.List.listItems
 refine wpAny_bind (wpAny_seqItems e2 rfl (wpAny_pure ?_))
 refine wpAny_bind (wpAny_bind (wpAny_seqItems e rfl (wpAny_pure ?_)))
 refine wpAny_bind (wpAny_of_eq ((sliceIndices_raw (some (a : Int)) (some (c : Int)) none items.size (by simp)).trans (congrArg (pure : Int × Int × Int → Sem (Int × Int × Int)) (bounds_run hac hc))) ?_)
 show wpAny _ _ (if ((1 : Int) == 1) = true then _ else _) _ _ s
 rw [if_pos (by decide)]
 refine wpAny_bind (wpAny_rule ?_)
 first
  | simp only [notLongL hsz, Bool.false_eq_true, if_false]
  | refine PySem.W.KFB.if_not (notLongL hsz) ?_
 first | refine wpAny_bind (wpAny_pure ?_) | skip
 show wpAny _ _ (updateSeq l (fun xs => xs.extract 0 ((a : Int)).toNat ++ new ++ xs.extract (max (a : Int) (c : Int)).toNat xs.size) >>= _) _ _ s
 rw [hmax, Int.toNat_natCast]
 refine wpAny_bind (wpAny_updateSeq (hz := Nat.le_trans (Nat.le_add_right _ _) hsz) (_hz' := hz') e rfl ?_)
 refine wpAny_bind (wpAny_letGo ?_)
 first
  | exact wpAny_bind (wpAny_pure (wpAny_pure ⟨.none, rfl, wpAny_pure h⟩))
  | exact wpAny_pure ⟨.none, rfl, wpAny_pure h⟩
end
section
variable {X : Cx}
end
end L2
namespace Att
open PySem PySem.W PySem.Calls PyProof.Rows
theorem ints_of_wellAll {P : Params} {h : Heap} : ∀ (ns : List Int) (vs : List Value), WellAll P h vs (ns.map WData.int) → IntsAre vs ns := by
 intro ns
 induction ns with
 | nil =>
  intro vs w
  rw [List.map_nil] at w
  cases w
  exact .nil
 | cons n ns ih =>
  intro vs w
  rw [List.map_cons] at w
  cases w with
  | cons a b =>
   cases a
   exact .cons _ _ (ih _ b)
theorem script_of {l : OpenLaw} {n : Nat} (hn : l.most = some n) {P : Params} {h : Heap} {args : List WData} {vals : List Value}
  (hpre : l.row.toRowW.claim.pre args = true) (hwl : WellAll P h vals args) :
  ∃ a vs ns, vals = [Value.ref a] ∧ args = [WData.list (ns.map WData.int)] ∧ h.get? a = some { cls := .type "list", data := .seq vs.toArray } ∧ IntsAre vs ns ∧ ns.length ≤ n := by
 have hsh : WShape.hasAll [] args [.list .int] = true := (pre_splitW hpre).1
 have hc : l.pre.holds [] { args := args } = true := (pre_splitW hpre).2
 obtain ⟨d, r, rfl, h1, h2⟩ := hasAllW_cons hsh
 obtain rfl := hasAllW_nil h2
 obtain ⟨xs, rfl, h3⟩ := hasW_list h1
 obtain ⟨ns, rfl⟩ := items_int h3
 have hlen : ns.length ≤ n := by
  unfold OpenLaw.pre at hc
  have h4 : (WTm.not (.lt (.lit (.int (n : Int))) (.len (.arg 0)))).holds [] { args := [.list (ns.map .int)] } = true := by
   have h4 := (holds_andW hc).1
   rw [hn] at h4
   exact h4
  have h5 := condW_of h4 (w_not (w_lt w_lit (w_len_list (w_arg rfl))))
  rw [List.length_map] at h5
  refine Nat.le_of_not_lt fun q => ?_
  have q' : (n : Int) < ((ns.length : Nat) : Int) := by omega
  first
   | (rw [decide_eq_true q'] at h5; exact absurd h5 (by decide))
   | (simp at h5; omega)
 cases hwl with
 | cons w1 w2 =>
  cases w2
  cases w1 with
  | list ho hall => exact ⟨_, _, ns, rfl, rfl, ho, ints_of_wellAll ns _ hall, hlen⟩
theorem post_true (l : OpenLaw) (args : List WData) : l.row.toRowW.claim.post args (.bool true) args = true :=
 postW_of (r := l.row.toRowW) (X := (true == true))
  (show WShape.has [] (.bool true) .bool = true by first | rfl | decide | simp [WShape.has, WShape.arms, WShape.armsAll])
  (show (WTm.eq .res (.lit (.bool true))).value [] { args := args, res := some (.bool true), after := args } = some (.bool (true == true)) from w_eq_bool (w_res rfl) w_lit) rfl
theorem attach_call {l : OpenLaw} {n : Nat} {q : Program} {loose : List Str} {XP : (Str → Option Value) → Heap → Prop} {YP : World → Heap → Prop} {d : DefRec}
  (hn : l.most = some n) (hdf : d.params.defaults = [])
  (call : ∀ (w : World) (s₀ s₁ : Shared) (mg mb : Str → Option Value) (fa : Addr) (o : Obj) (pm cd doc : Value) (a : Addr) (vs : List Value) (ns : List Int),
   Ground q loose [] XP w s₀ mg mb s₁.heap → YP w s₁.heap →
   s₁.heap.get? fa = some o → o.data = .func (docDef d.name d.params d.body d.scope pm cd doc) → s₁.heap.CodeRec cd d.name → mg d.name = some (.ref fa) →
   s₁.heap.get? a = some { cls := .type "list", data := .seq vs.toArray } → IntsAre vs ns → ns.length ≤ n → s₁.gens = #[] →
   codeAny (model l.prog w) callerA (.call (.ref fa) ⟨[.ref a], []⟩) (fun r s' => r = .ok (.ret (.bool true)) ∧ OldK s₁.heap s'.heap ∧ s'.os = s₁.os ∧ AllBare s'.gens) s₁) :
  WalkO q loose XP YP l.row.toRowW d [] (fun f vs => PySem.call f vs) := by
 intro w s₀ s₁ mg mb G Y fa o pm cd doc dV kV ho hd hcd hD hmg hg args vals as hpre hlay hrd hwl hlo
 obtain rfl : dV = .none := Dflts.none hD hdf
 obtain rfl : kV = .none := Dflts.noKw hD
 obtain ⟨a, vs, ns, rfl, rfl, hobj, hints, hlen⟩ := script_of hn hpre hwl
 refine enter_call (codeAny_mono (call w s₀ s₁ mg mb fa o pm cd doc a vs ns G Y ho (fd_plain hd) hcd hmg hobj hints hlen hg) fun r s' hq => ?_)
 obtain ⟨rfl, h2, h3, h4⟩ := hq
 exact ⟨.inl ⟨.bool true, .bool true, [], rfl, fun _ => rfl, .bool true, post_true l _, fun _ => ⟨List.Pairwise.nil, fun _ hm => (nomatch hm)⟩⟩, h2, h3, h4⟩
section
variable {prog : Program} {w : World} {A : Around} {E : Value → Shared → Prop} {s : Shared} {K : Frag}
def ledger (h : Heap) (L d : Addr) : List (Addr × Obj) := (List.range h.objs.size).filterMap fun a => if a = L ∨ a = d then none else (h.get? a).map fun o => (a, o)
end
end Att
namespace L2
open PySem PySem.Spec PyProof.Rows
theorem vals_ints : ∀ {vs : List Value} {ns : List Int}, IntsAre vs ns → Vals (ns.map V.int) vs
 | _, _, .nil => .nil
 | _, _, .cons n t h => .cons ⟨t, rfl⟩ (vals_ints h)
def Only (H : Hp) : Prop := ∀ b, H b = none ∨ ∃ o xs, H b = some (.frz o (.lst xs))
theorem law_call {P : Program} {w : World} {K : PySem.W.Frag} {mg mb : Str → Option Value} {CX : CXT} {k : Nat} {fa a : Addr} {fd : FuncData} {x : Str} {sp : Sp} {s₁ : Shared} {vs : List Value} {ns : List Int}
  (KX : K.In s₁.heap) (hns : s₁.heap.Ns mainGlobals mg) (hb : s₁.heap.Ns builtinsNs mb) (hbb : ∀ x : Str, x ≠ "__name__" → mb x = bootBuiltins x) (hlim : s₁.heap.NoLimit) (hg : s₁.gens = #[])
  (ha : s₁.heap.get? a = some { cls := .type "list", data := .seq vs.toArray }) (hi : IntsAre vs ns) (hl : ns.length ≤ sizeLine) (hr : Room k callerA)
  (F : ∀ base : Heap, K.In base → base.Ns mainGlobals mg → FnOk P w K mg base CX k fa fd [x] sp) (hbind : ∀ (s : Shared) (u : Value), BindsTo s fd ⟨[u], []⟩ [(x, u)])
  (hsp : ∀ H : Hp, Only H → SqL K H a (ns.map V.int) → sp [.ref a] H (fun v _ => v = .bl true) fun _ _ _ => False)
  (hCX : ∀ H e s', CX [] H s₁ (fun _ _ _ => False) e s' → False) :
  codeAny (model P w) callerA (.call (.ref fa) ⟨[.ref a], []⟩) (fun r s' => r = .ok (.ret (.bool true)) ∧ OldK s₁.heap s'.heap ∧ s'.os = s₁.os ∧ AllBare s'.gens) s₁ := by
 have rv := vals_ints hi
 have lenV := hi.length
 have core : ∀ H : Hp, Only H → SqL K H a (ns.map V.int) → HOk P w H s₁.heap → (∀ b, H b ≠ none → b = a) → (H a ≠ none → K.lookup a = none) →
   codeAny (model P w) callerA (.call (.ref fa) ⟨[.ref a], []⟩) (fun r s' => r = .ok (.ret (.bool true)) ∧ OldK s₁.heap s'.heap ∧ s'.os = s₁.os ∧ AllBare s'.gens) s₁ := by
  intro H hO hS hok hA hK
  have base_of : ∀ {b : Addr} {o : Obj}, s₁.heap.get? b = some o → H b = none → (hidT s₁.heap H).get? b = some o := fun e n => hidT_get e n
  have noA : ∀ {b : Addr} {o : Obj} {es : Array DictEntry} {ep : Nat}, s₁.heap.get? b = some o → o.data = .dict es ep → H b = none := fun {b o es ep} e d => by
   cases q : H b with
   | none => rfl
   | some u =>
    have e' : b = a := hA b (by rw [q]; simp)
    subst e'
    rw [ha] at e; cases e
    have d' : Data.seq vs.toArray _ = Data.dict es ep := d
    cases d'
  have nsK : ∀ {b : Addr} {m : Str → Option Value}, s₁.heap.Ns b m → (hidT s₁.heap H).Ns b m := fun {b m} ⟨o, es, ep, e, d, r⟩ => ⟨o, es, ep, base_of e (noA e d), d, r⟩
  have hKb : K.In (hidT s₁.heap H) := fun b o e => base_of (KX b o e) (by
   cases q : H b with
   | none => rfl
   | some u =>
    have e' : b = a := hA b (by rw [q]; simp)
    subst e'
    rw [hK (by rw [q]; simp)] at e; cases e)
  have hM : Mod K mg (hidT s₁.heap H) := ⟨hKb, nsK hns, ⟨mb, nsK hb, hbb⟩, let ⟨mc, h1, h2⟩ := hlim; ⟨mc, nsK h1, h2⟩⟩
  have e0 : Env0 P w K mg (hidT s₁.heap H) callerA [] s₁ H := ⟨rfl, hM, fun b o e => of_hidT e, Nat.le_of_eq (hidT_size _ _), trivial, fun b hb => absurd (show b ∈ ([] : List Addr) from hb) (by simp), hok, .of_eq hg⟩
  refine codeAny_mono ((F _ hKb (nsK hns)).run callerA [] s₁ H ⟨[.ref a], []⟩ [.ref a] [.ref a] _ _ hr e0 (hbind s₁ (.ref a)) (.cons rfl .nil) (hsp H hO hS)) fun r s' h => ?_
  cases r with
  | error e => exact (hCX H e s' h).elim
  | ok fl =>
   cases fl with
   | next => exact False.elim h
   | brk => exact False.elim h
   | cont => exact False.elim h
   | ret u =>
    obtain ⟨v, H', os, bare, un, hok', r', q⟩ := h
    have q' : v = .bl true := q
    subst q'
    obtain rfl : u = Value.bool true := r'
    refine ⟨rfl, OldK.of_keep fun b o e => ?_, os, bare⟩
    cases q : H b with
    | none => exact un.keep b o e q (by intro z; exact absurd (show b ∈ ([] : List Addr) from z) (by simp)) (by simp)
    | some u =>
     rcases hO b with z | ⟨ob, xs, z⟩
     ·rw [q] at z; cases z
     ·have z2 := un.frzs b ob _ z
      obtain ⟨e1, _⟩ := hok b _ z
      obtain ⟨e2, _⟩ := hok' b _ z2
      rw [e] at e1; cases e1
      exact e2
 cases hk : K.lookup a with
 | some o =>
  have e := KX a o hk
  rw [ha] at e
  cases e
  refine core (fun _ => none) (fun _ => .inl rfl) (.inr ⟨_, vs.toArray, _, hk, rfl, rfl, rfl, by rw [List.size_toArray, lenV]; exact hl, by simpa using rv⟩) (fun b u z => by have z' : (none : Option HO) = some u := z; cases z') (fun b z => absurd rfl z) fun z => absurd rfl z
 | none =>
  refine core (fun b => if b = a then some (.frz { cls := .type "list", data := .seq vs.toArray } (.lst (ns.map V.int))) else none) (fun b => ?_) (.inl (.inr ⟨{ cls := .type "list", data := .seq vs.toArray }, if_pos rfl⟩)) (fun b u z => ?_) (fun b z => ?_) fun _ => hk
  ·by_cases hb : b = a
   ·exact .inr ⟨_, _, if_pos hb⟩
   ·exact .inl (if_neg hb)
  ·by_cases hb : b = a
   ·have z' := (if_pos hb).symm.trans z
    cases z'
    subst hb
    exact ⟨ha, by rw [List.length_map]; exact hl, vs, _, rv, ha⟩
   ·have z' := (if_neg hb).symm.trans z
    cases z'
  ·by_cases hb : b = a
   ·exact hb
   ·exact absurd (if_neg hb) z
end L2
namespace L2
open PySem PySem.Spec PyProof.Rows
abbrev KOf {K : PySem.W.Frag} {h : Heap} (_ : K.In h) : PySem.W.Frag := K
theorem walk_of {l : PySem.W.OpenLaw} {n k : Nat} {q : Program} {loose : List Str} {XP : (Str → Option Value) → Heap → Prop} {YP : World → Heap → Prop} {d : DefRec} {K : Params → PySem.W.Frag} {CX : World → CXT} {sp : World → Sp} {x : Str}
  (hn : l.most = some n) (hn2 : n ≤ sizeLine) (hdf : d.params.defaults = []) (hr : Room k callerA)
  (hY : ∀ (w : World) (h : Heap), YP w h → (K w.params).In h)
  (F : ∀ (w : World) (mg : Str → Option Value) (fa : Addr) (h : Heap), (K w.params).In h → h.Ns mainGlobals mg → mg d.name = some (.ref fa) →
   ∃ fd : FuncData, (∀ (s : Shared) (u : Value), BindsTo s fd ⟨[u], []⟩ [(x, u)]) ∧
    ∀ base : Heap, (K w.params).In base → base.Ns mainGlobals mg → FnOk l.prog w (K w.params) mg base (CX w) k fa fd [x] (sp w))
  (hsp : ∀ (w : World) (H : Hp) (a : Addr) (ns : List Int), ns.length ≤ n → Only H → SqL (K w.params) H a (ns.map V.int) → sp w [.ref a] H (fun v _ => v = .bl true) fun _ _ _ => False)
  (hCX : ∀ (w : World) (H : Hp) (s : Shared) (e : Value) (s' : Shared), CX w [] H s (fun _ _ _ => False) e s' → False) :
  PySem.W.WalkO q loose XP YP l.row.toRowW d [] (fun f vs => PySem.call f vs) := by
 refine Att.attach_call hn hdf fun w s₀ s₁ mg mb fa o pm cd doc a vs ns G Y ho hd hcd hmg hobj hints hlen hg => ?_
 have KX := hY w _ Y
 obtain ⟨fd, hb, hF⟩ := F w mg fa _ KX G.T.g hmg
 exact law_call KX G.T.g G.T.b G.T.builtins G.T.nolimit hg hobj hints (Nat.le_trans hlen hn2) hr hF hb (fun H hO hS => hsp w H a ns hlen hO hS) fun H e s' => hCX w H s₁ e s'
end L2
namespace L2
open PySem PySem.Spec PyProof.Rows
def defArgs (s : Stmt) : Arguments := match s with
 | .FunctionDef _ a _ _ _ _ _ _ _ _ => a
 | _ => { posonlyargs := [], args := [], vararg := none, kwonlyargs := [], kw_defaults := [], kwarg := none, defaults := [] }
def defBody (s : Stmt) : List Stmt := match s with
 | .FunctionDef _ _ b _ _ _ _ _ _ _ => b
 | _ => []
def defScope (s : Stmt) : Scope := match s with
 | .FunctionDef _ _ _ _ _ _ sc _ _ _ => sc
 | _ => { kind := .function, names := [], isGenerator := false, isCoroutine := false }
abbrev CX0 : CXT := fun _ _ _ _ _ _ => False
abbrev E0 : XK := fun _ _ _ => False
theorem pass0 {X : Cx} : Passes CX0 X E0 := fun _ _ _ _ _ _ _ h => h.elim
structure Fun (K : PySem.W.Frag) (x qual : Str) (st : Stmt) (f : Addr) (fd : FuncData) : Prop where
 ex : ∃ (oc : Value) (od : Option Addr) (kV doc pm : Value) (an : Option Addr) (cdv ct : Value) (osl : Array (Option Value)),
  fd = PySem.W.fnOf x qual (defArgs st) (defBody st) (defScope st) .none kV doc pm an cdv ct ∧ K.lookup f = some ⟨oc, od, .func fd, osl⟩ ∧ PySem.W.codeIn K cdv qual = true
 kp : PySem.W.keepIn K (.ref f) = true
section
variable {P : Program} {w : World} {K : PySem.W.Frag} {mg : Str → Option Value} {base : Heap}
theorem Fun.ok {x qual : Str} {st : Stmt} {f : Addr} {fd : FuncData} {N ps : List Str} {k : Nat} {sp : Sp} (F : Fun K x qual st f fd) (S : FnScope N ps (defScope st)) (len : ∀ vs H Q E, sp vs H Q E → vs.length = ps.length)
  (hbody : ∀ (cdv : Value) (A : Around) (outer : List Env) (s : Shared) (H : Hp) (vs : List V) (Q : VK) (E : XK), Room k (A.deeper (envOfC qual (defScope st) s.heap.objs.size f cdv)) → sp vs H Q E →
   ∃ t, PSs (cxOf CX0 P w K mg base N qual (defScope st) f cdv A outer s H E).nox (defBody st) t ∧ t { nx := fun _ H' => Q .non H', rt := Q } (start N vs) H) : FnOk P w K mg base CX0 (k + 1) f fd ps sp := by
 obtain ⟨oc, od, kV, doc, pm, an, cdv, ct, osl, rfl, lk, hcd⟩ := F.ex
 refine fn_of lk hcd S len fun A outer s H vs Q E hr hsp => ?_
 obtain ⟨t, h, q⟩ := hbody cdv A outer s H vs Q E hr hsp
 exact ⟨t, h.nox, q⟩
theorem Fun.binds {x qual : Str} {st : Stmt} {f : Addr} {fd : FuncData} {ps : List Str} (F : Fun K x qual st f fd)
  (h : ∀ (kV doc pm : Value) (an : Option Addr) (cdv ct : Value) (us : List Value), us.length = ps.length → bindArgs (PySem.W.fnOf x qual (defArgs st) (defBody st) (defScope st) .none kV doc pm an cdv ct) ⟨us, []⟩ = pure (ps.zip us)) : Binds K fd ps [] := by
 obtain ⟨oc, od, kV, doc, pm, an, cdv, ct, osl, rfl, lk, hcd⟩ := F.ex
 exact .all (h kV doc pm an cdv ct)
theorem fun_mk {x qual : Str} {st : Stmt} {f : Addr} {oc : Value} {od an : Option Addr} {osl : Array (Option Value)} {kV doc pm cdv ct : Value} (l : K.lookup f = some ⟨oc, od, .func (PySem.W.fnOf x qual (defArgs st) (defBody st) (defScope st) .none kV doc pm an cdv ct), osl⟩)
  (c : PySem.W.codeIn K cdv qual = true) (k : PySem.W.keepIn K (.ref f) = true) : Fun K x qual st f (PySem.W.fnOf x qual (defArgs st) (defBody st) (defScope st) .none kV doc pm an cdv ct) := ⟨⟨oc, od, kV, doc, pm, an, cdv, ct, osl, rfl, l, c⟩, k⟩
end
section
variable {X : Cx}
theorem pv (i : Nat) {x : Str} {pos : Pos} (hN : X.N[i]? = some x := by rfl) (hv : Vis X.env.scope x := by first | exact Or.inl rfl | exact Or.inr (Or.inl rfl) | exact Or.inr (Or.inr rfl)) (hd : (x == ("__debug__" : Str)) = false := by decide)
  (hcd : (x == ("__classdict__" : Str)) = false := by decide) : PE X (.Name x pos) (tVar i) := pe_var hN hv hd hcd
end
theorem iteF {A B : Prop} (h : B) : if false = true then A else B := by
 rw [if_neg Bool.false_ne_true]
 exact h
theorem iteT {A B : Prop} (h : A) : if true = true then A else B := by
 rw [if_pos rfl]
 exact h
theorem ite2 {c A B : Prop} [Decidable c] (h1 : c → A) (h2 : ¬ c → B) : if c then A else B := by
 by_cases h : c
 ·rw [if_pos h]
  exact h1 h
 ·rw [if_neg h]
  exact h2 h
def Same (H H' : Hp) : Prop := ∀ b o, H b = some o → H' b = some o
theorem Same.refl (H : Hp) : Same H H := fun _ _ h => h
theorem Same.trans {H H1 H2 : Hp} (a : Same H H1) (b : Same H1 H2) : Same H H2 := fun c o h => b c o (a c o h)
theorem Same.free {H H' : Hp} (e : Same H H') {l : Addr} (h : H' l = Option.none) : H l = Option.none := by
 cases q : H l with
 | none => rfl
 | some o =>
  rw [e l o q] at h
  cases h
theorem Same.seq {K : PySem.W.Frag} {H H' : Hp} {a : Addr} {xs : List V} (e : Same H H') (h : SqL K H a xs) : SqL K H' a xs := by
 rcases h with (h | ⟨o, h⟩) | h
 ·exact .inl (.inl (e _ _ h))
 ·exact .inl (.inr ⟨o, e _ _ h⟩)
 ·exact .inr h
end L2
namespace L2
open PySem PySem.Spec PyProof.Rows
section
variable {X : Cx}
theorem op_fdivB : OpR X (binaryOp .FloorDiv) (rI (fun _ j => 0 < j ∧ j.natAbs.log2 < 9000) fun i j => .int (i / j)) := opI fun i j _ _ _ _ _ hc q => by
 have e : i.fdiv j = i / j := Int.fdiv_eq_ediv_of_nonneg i (Int.le_of_lt hc.1)
 refine floordiv_int (by have := hc.1; omega) ?_ (.inl (PyProof.noPylong_of_log2 hc.2))
 rw [e]
 exact q
theorem op_isNotB : OpR X (compareOp .IsNot) (fun x y H Q => ∃ b c, x = .bl b ∧ y = .bl c ∧ Q (.bl (!(b == c))) H) := by
 intro pins s σ H x y v u Q I rx ry h
 obtain ⟨b, c, rfl, rfl, q⟩ := h
 cases (show v = Value.bool b from rx)
 cases (show u = Value.bool c from ry)
 refine wpAny_isNot_plain rfl (fin_bl I q ?_)
 cases b <;> cases c <;> rfl
theorem bools_of : ∀ {bs : List Bool} {us : List Value}, Vals (bs.map V.bl) us → LSm.BoolsAre us bs
 | [], _, .nil => .nil
 | b :: bs, _, .cons r t => by
  cases (show _ = Value.bool b from r)
  exact .cons b (bools_of t)
theorem call_all (hc : X.calm = true) : CallR X (.builtin "all") (fun xs H Q => ∃ (p : Addr) (bs : List Bool), xs = [.ref p] ∧ SqL X.K H p (bs.map V.bl) ∧ Q (.bl (bs.all id)) H) := by
 intro pins s σ H xs us Q I r h
 obtain ⟨p, bs, rfl, hq, q⟩ := h
 obtain ⟨u, rfl, ru⟩ := vals1 r
 cases (show u = Value.ref p from ru)
 obtain ⟨its, rv, pl, hz⟩ := I.list hq
 have hb := bools_of rv
 have hil : s.heap.IsList p its.toArray := pl.isList
 have plt : p < s.heap.objs.size := by obtain ⟨_, e, _⟩ := hil; exact Heap.lt_size e
 refine call_all_walk (wpAny_pyIter_list hil ⟨s.heap.objs.size, [s.heap.objs.size, p], [s.heap.objs.size], its.toArray.size, _, _, fun i => (bs[i]?).getD true, rfl,
  Walks.list (A := X.A.in1) (I.ok.hd hc) _ p (Nat.ne_of_lt plt) its.toArray, ⟨⟨_, Heap.get?_push_size _ rfl, rfl, rfl⟩, hil.push _⟩, ?_, ?_⟩)
 ·intro i v s' Q' E' hP hT
  obtain ⟨b, e, rfl⟩ := hb.get i v (by simpa using hP)
  simp only [e, Option.getD_some] at hT
  exact wpAny_truthy_bool hT
 ·intro h' tk hk
  have e2 : ((List.range its.toArray.size).all fun i => (bs[i]?).getD true) = bs.all id := by
   rw [List.size_toArray, hb.length]
   exact LSm.range_all bs
  rw [e2]
  exact ⟨.bl _, H, I.kept (LSm.kept_iter hk), rfl, q⟩
theorem op_eqL0 (hu : X.A.units < cLine) : OpR X (compareOp .Eq) (fun x y H Q => ∃ a b xs, x = .ref a ∧ y = .ref b ∧ SqL X.K H a xs ∧ SqL X.K H b [] ∧ Q (.bl xs.isEmpty) H) := by
 intro pins s σ H x y v u Q I rx ry h
 obtain ⟨a, b, xs, rfl, rfl, ha, hb, q⟩ := h
 cases (show v = Value.ref a from rx)
 cases (show u = Value.ref b from ry)
 obtain ⟨its, r1, p1, _⟩ := I.list ha
 obtain ⟨its2, r2, p2, _⟩ := I.list hb
 cases r2
 cases r1 with
 | nil => exact SeqAt.eq_listAt (e := fun _ => true) p1.isList p2.isList rfl hu (fun j h1 _ => absurd h1 (by simp)) (fin_bl I q (by simp))
 | cons _ _ => exact SeqAt.eq_list_lengthsAt p1.isList p2.isList (by simp) hu (fin_bl I q (by simp))
def tyn (H : Hp) : V → Option String
 | .non => some "NoneType"
 | .bl _ => some "bool"
 | .int _ => some "int"
 | .str _ => some "str"
 | .ref a => match H a with
  | some (.lst _) => some "list"
  | some (.tup _) => some "tuple"
  | some (.dK _) => some "dict"
  | _ => none
 | _ => none
theorem TyOf.byName {K : PySem.W.Frag} {H : Hp} {v : V} {T : String} (h : tyn H v = some T) : TyOf K H v (.type T) := by
 cases v with
 | non => cases h; exact .non
 | bl b => cases h; exact .bl b
 | int i => cases h; exact .int i
 | str x => cases h; exact .str x
 | ref a =>
  simp only [tyn] at h
  cases e : H a with
  | none => rw [e] at h; cases h
  | some o =>
   rw [e] at h
   cases o <;> first | (cases h; first | exact .lst e | exact .tup e | exact .dK e) | cases h
 | _ => cases h
theorem kit_tuple (K : PySem.W.Frag) {T : String} (h : T ∈ ["NoneType", "bool", "int", "str", "list", "tuple", "dict"]) : PySem.W.kitOne K (.type T) (.type "tuple") = some (T == "tuple") := by
 simp only [List.mem_cons, List.not_mem_nil, or_false] at h
 rcases h with rfl | rfl | rfl | rfl | rfl | rfl | rfl <;> kernel_rfl
theorem kit_int (K : PySem.W.Frag) {T : String} (h : T ∈ ["NoneType", "bool", "int", "str", "list", "tuple", "dict"]) : PySem.W.kitOne K (.type T) (.type "int") = some (T == "int" || T == "bool") := by
 simp only [List.mem_cons, List.not_mem_nil, or_false] at h
 rcases h with rfl | rfl | rfl | rfl | rfl | rfl | rfl <;> kernel_rfl
theorem kit_bool (K : PySem.W.Frag) {T : String} (h : T ∈ ["NoneType", "bool", "int", "str", "list", "tuple", "dict"]) : PySem.W.kitOne K (.type T) (.type "bool") = some (T == "bool") := by
 simp only [List.mem_cons, List.not_mem_nil, or_false] at h
 rcases h with rfl | rfl | rfl | rfl | rfl | rfl | rfl <;> kernel_rfl
theorem tyn_mem {H : Hp} {v : V} {T : String} (h : tyn H v = some T) : T ∈ ["NoneType", "bool", "int", "str", "list", "tuple", "dict"] := by
 cases v with
 | non => cases h; simp
 | bl b => cases h; simp
 | int i => cases h; simp
 | str x => cases h; simp
 | ref a =>
  simp only [tyn] at h
  cases e : H a with
  | none => rw [e] at h; cases h
  | some o =>
   rw [e] at h
   cases o <;> first | (cases h; simp; done) | cases h
 | _ => cases h
theorem call_isinst : CallR X (.builtin "isinstance") (fun xs H Q => ∃ x n t b, xs = [x, .ty n] ∧ TyOf X.K H x t ∧ PySem.W.kitOne X.K t (.type n) = some b ∧ Q (.bl b) H) := by
 intro pins s σ H xs us Q I r h
 obtain ⟨x, n, t, b, rfl, ty, e, q⟩ := h
 obtain ⟨u, w', rfl, ru, rw'⟩ := vals2 r
 cases (show w' = Value.type n from rw')
 exact isinst_ok I ru ty e fun tk => ⟨.bl b, H, I.tok tk, rfl, q⟩
theorem call_isTup : CallR X (.builtin "isinstance") (fun xs H Q => ∃ x T, xs = [x, .ty "tuple"] ∧ tyn H x = some T ∧ Q (.bl (T == "tuple")) H) :=
 fun pins s σ H xs us Q I r ⟨x, T, e, hT, q⟩ => call_isinst pins s σ H xs us Q I r ⟨x, _, _, _, e, .byName hT, kit_tuple _ (tyn_mem hT), q⟩
theorem call_isInt : CallR X (.builtin "isinstance") (fun xs H Q => ∃ x T, xs = [x, .ty "int"] ∧ tyn H x = some T ∧ Q (.bl (T == "int" || T == "bool")) H) :=
 fun pins s σ H xs us Q I r ⟨x, T, e, hT, q⟩ => call_isinst pins s σ H xs us Q I r ⟨x, _, _, _, e, .byName hT, kit_int _ (tyn_mem hT), q⟩
theorem call_isBool : CallR X (.builtin "isinstance") (fun xs H Q => ∃ x T, xs = [x, .ty "bool"] ∧ tyn H x = some T ∧ Q (.bl (T == "bool")) H) :=
 fun pins s σ H xs us Q I r ⟨x, T, e, hT, q⟩ => call_isinst pins s σ H xs us Q I r ⟨x, _, _, _, e, .byName hT, kit_bool _ (tyn_mem hT), q⟩
end
section
variable {X : Cx}
def rCatA (K : PySem.W.Frag) : R2 := fun x y H Q => ∃ a b xs ys, x = .ref a ∧ y = .ref b ∧ H a = some (.tup xs) ∧ H b = some (.tup ys) ∧ xs.length + ys.length ≤ sizeLine ∧
 ∀ p H', Same H H' → H' p = some (.tup (xs ++ ys)) → Q (.ref p) H'
theorem op_catA : OpR X (binaryOp .Add) (rCatA X.K) := by
 intro pins s σ H x y v u Q I rx ry h
 obtain ⟨a, b, xs, ys, rfl, rfl, ha, hb, hz, q⟩ := h
 cases xs with
 | cons x xs =>
  refine op_catT pins s σ H (.ref a) (.ref b) v u Q I rx ry ⟨a, b, _, ys, rfl, rfl, SqT.of ha, SqT.of hb, (by simp), hz, fun e => ?_, fun _ p hp => ?_⟩
  ·subst e
   exact q a H (Same.refl H) (by rw [List.append_nil]; exact ha)
  ·exact q p _ (fun c o e => by rw [upd_ne (ne_of_none e hp)]; exact e) upd_same
 | nil =>
  cases (show v = Value.ref a from rx)
  cases (show u = Value.ref b from ry)
  obtain ⟨its, r1, p1, _⟩ := I.tuple (SqT.of (K := X.K) ha)
  obtain ⟨its2, r2, p2, _⟩ := I.tuple (SqT.of (K := X.K) hb)
  cases r1
  obtain ⟨⟨c1, d1, t1, l1⟩, o1, k1, n1, g1⟩ := id p1
  obtain ⟨⟨c2, d2, t2, l2⟩, o2, k2, n2, g2⟩ := id p2
  simp only at k1 g1 k2 g2
  subst k1 g1 k2 g2
  exact concat_meets ⟨_, o1, rfl⟩ ⟨_, o2, rfl⟩ noFill_tuple_add seq_tuple_add PySem.F.slot_tuple_add PySem.F.entry_tuple_add (PySem.F.args_tuple_add_2 _ _)
   (tuple_addW0 a b _ its2.toArray n1 n2 d1 d2 l1 l2 (by simp)) ⟨o1, o2, ⟨.ref b, H, I, rfl, q b H (Same.refl H) hb⟩⟩
end
end L2
namespace L2
open PySem PySem.Spec PyProof.Rows
def cxComp (X : Cx) (scope : Scope) (cl : List (Str × Addr)) (C : Addr) (N : List Str) (s : Shared) (H : Hp) (ex : List Addr) : Cx :=
 { X with N := N, s₀ := s, H₀ := H, env := compEnvC scope cl C X.env, outer := X.stack, ex := ex, fn := fun _ => false, pn := [], xe := fun _ _ => False }
theorem closure_has {scope : Scope} {env : Env} (hf : ∀ y ∈ scope.names, y.2 = .free → ∃ c, env.cells.lookup y.1 = some c) :
  ∃ cl, closureFor scope env = pure cl ∧ (∀ x c, cl.lookup x = some c → env.cells.lookup x = some c) ∧ ∀ y ∈ scope.names, y.2 = .free → cl.lookup y.1 = env.cells.lookup y.1 := by
 have aux : ∀ (names : List (Str × NameKind)) (acc : List (Str × Addr)), (∀ y ∈ names, y.2 = .free → ∃ c, env.cells.lookup y.1 = some c) → (∀ x c, acc.lookup x = some c → env.cells.lookup x = some c) →
   ∃ cl, (forIn names acc fun x r => match x with
     | (name, kind) => if (kind == NameKind.free) = true then (cellOf env name >>= fun c => pure (ForInStep.yield ((name, c) :: r))) else pure (ForInStep.yield r) : Sem (List (Str × Addr))) = pure cl ∧
    (∀ x c, cl.lookup x = some c → env.cells.lookup x = some c) ∧ (∀ x c, acc.lookup x = some c → cl.lookup x = some c) ∧ ∀ y ∈ names, y.2 = .free → cl.lookup y.1 = env.cells.lookup y.1 := by
  intro names
  induction names with
  | nil => intro acc _ ha; exact ⟨acc, rfl, ha, fun _ _ e => e, fun y hy => absurd hy (by simp)⟩
  | cons z r ih =>
   intro acc hn ha
   obtain ⟨n, k⟩ := z
   have hr : ∀ y ∈ r, y.2 = .free → ∃ c, env.cells.lookup y.1 = some c := fun y hy => hn y (List.mem_cons_of_mem _ hy)
   by_cases hk : k = .free
   ·subst hk
    obtain ⟨c, hc⟩ := hn (n, .free) List.mem_cons_self rfl
    have hc : env.cells.lookup n = some c := hc
    have ha' : ∀ x d, ((n, c) :: acc).lookup x = some d → env.cells.lookup x = some d := fun x d e => by
     rw [List.lookup_cons] at e
     cases hx : x == n with
     | true =>
      rw [hx] at e
      have e' : c = d := Option.some.inj e
      have ex : x = n := eq_of_beq hx
      rw [ex, ← e']; exact hc
     | false => rw [hx] at e; exact ha x d e
    obtain ⟨cl, e1, e2, e3, e4⟩ := ih ((n, c) :: acc) hr ha'
    have hcell : cellOf env n = pure c := by unfold cellOf; rw [hc]
    refine ⟨cl, ?_, e2, fun x d e => ?_, fun y hy hy2 => ?_⟩
    ·rw [List.forIn_cons]
     show ((if (NameKind.free == NameKind.free) = true then (cellOf env n >>= fun c => pure (ForInStep.yield ((n, c) :: acc))) else pure (ForInStep.yield acc)) >>= _) = _
     rw [if_pos (by decide : (NameKind.free == NameKind.free) = true), hcell]
     exact e1
    ·have h1 : ((n, c) :: acc).lookup x = some (if x == n then c else d) := by
      rw [List.lookup_cons]
      cases hx : x == n with
      | true => rfl
      | false => exact e
     have h2 := e3 x _ h1
     have h3 := e2 x _ h2
     have h4 := ha x d e
     rw [h3] at h4
     rw [h2]; exact h4
    ·rcases List.mem_cons.mp hy with rfl | hy3
     ·have h1 : ((n, c) :: acc).lookup n = some c := by rw [List.lookup_cons, beq_self_eq_true]
      show cl.lookup n = _
      rw [e3 n c h1, hc]
     ·exact e4 y hy3 hy2
   ·have hb : (k == NameKind.free) = false := by simpa using hk
    obtain ⟨cl, e1, e2, e3, e4⟩ := ih acc hr ha
    refine ⟨cl, ?_, e2, e3, fun y hy hy2 => ?_⟩
    ·rw [List.forIn_cons]
     show ((if (k == NameKind.free) = true then (cellOf env n >>= fun c => pure (ForInStep.yield ((n, c) :: acc))) else pure (ForInStep.yield acc)) >>= _) = _
     rw [hb]
     exact e1
    ·rcases List.mem_cons.mp hy with rfl | hy3
     ·exact absurd hy2 hk
     ·exact e4 y hy3 hy2
 obtain ⟨cl, e1, e2, _, e4⟩ := aux scope.names [] hf fun x c e => by cases e
 refine ⟨cl, Eq.trans ?_ e1, e2, e4⟩
 unfold closureFor
 first
  | rfl
  | (simp only [bind_pure]; done)
  | (simp only [bind_pure]; rfl)
  | (simp only [bind_pure]
     congr 1
     funext x r
     obtain ⟨n, k⟩ := x
     cases (k == NameKind.free) <;> rfl)
theorem relabel_of {env : Env} : ∀ {names : List (Str × NameKind)} {x : Str} {k' : NameKind},
  (names.map fun (n, k) => if (k == NameKind.free && env.scope.kind == .function && env.kindOf n == some .cell) then (n, NameKind.cell) else (n, k)).lookup x = some k' →
  names.lookup x = some k' ∨ (names.lookup x = some .free ∧ k' = .cell)
 | [], _, _, h => by simp at h
 | (n, k) :: r, x, k', h => by
  have ih := @relabel_of env r x k'
  rw [List.map_cons] at h
  show List.lookup x ((n, k) :: r) = _ ∨ (List.lookup x ((n, k) :: r) = _ ∧ _)
  rw [List.lookup_cons]
  by_cases hq : (k == NameKind.free && env.scope.kind == .function && env.kindOf n == some .cell) = true
  ·have g : List.lookup x ((if (k == NameKind.free && env.scope.kind == .function && env.kindOf n == some .cell) = true then (n, NameKind.cell) else (n, k)) :: _) = _ := h
   rw [if_pos hq, List.lookup_cons] at g
   have hk : k = .free := by
    rw [Bool.and_eq_true, Bool.and_eq_true] at hq
    exact eq_of_beq hq.1.1
   cases hx : x == n with
   | true => rw [hx] at g; rw [hk]; exact .inr ⟨rfl, (Option.some.inj g).symm⟩
   | false => rw [hx] at g; exact ih g
  ·have g : List.lookup x ((if (k == NameKind.free && env.scope.kind == .function && env.kindOf n == some .cell) = true then (n, NameKind.cell) else (n, k)) :: _) = _ := h
   rw [if_neg hq, List.lookup_cons] at g
   cases hx : x == n with
   | true => rw [hx] at g; exact .inl g
   | false => rw [hx] at g; exact ih g
theorem relabel_cell {env : Env} (hk : env.scope.kind = .function) {x : Str} (hx : env.kindOf x = some .cell) : ∀ {names : List (Str × NameKind)}, names.lookup x = some .free →
  (names.map fun (n, k) => if (k == NameKind.free && env.scope.kind == .function && env.kindOf n == some .cell) then (n, NameKind.cell) else (n, k)).lookup x = some .cell
 | [], h => by simp at h
 | (n, k) :: r, h => by
  have ih := @relabel_cell env hk x hx r
  show List.lookup x ((if (k == NameKind.free && env.scope.kind == .function && env.kindOf n == some .cell) = true then (n, NameKind.cell) else (n, k)) :: _) = some NameKind.cell
  rw [List.lookup_cons] at h
  cases hxn : x == n with
  | true =>
   rw [hxn] at h
   have ek : k = .free := Option.some.inj h
   have en : x = n := eq_of_beq hxn
   subst ek en
   rw [if_pos (by rw [hk, hx]; rfl), List.lookup_cons, beq_self_eq_true]
  | false =>
   rw [hxn] at h
   by_cases hq : (k == NameKind.free && env.scope.kind == .function && env.kindOf n == some .cell) = true
   ·rw [if_pos hq, List.lookup_cons, hxn]; exact ih h
   ·rw [if_neg hq, List.lookup_cons, hxn]; exact ih h
def PTs (X : Cx) (ifs : List Expr) (t : TT) : Prop :=
 ∀ (pins : List (Addr × Obj)) (s : Shared) (σ : St) (H : Hp) (Q : Bool → Hp → Prop), Inv X pins σ H s → t σ H Q →
  wpAny (model X.prog X.w) X.A (forIn ifs true fun c r => if r = true then do let ok ← isTrue c X.env (eval c X.env); pure (ForInStep.yield ok) else pure (ForInStep.yield r)) (TP X pins σ Q) X.xe s
def tNoIf : TT := fun _ H Q => Q true H
theorem tNoIf_go {σ : St} {H : Hp} {A B : Hp → Prop} (h : A H) : tNoIf σ H fun b H4 => if b = true then A H4 else B H4 := by
 show if true = true then A H else B H
 rw [if_pos rfl]
 exact h
theorem pts_nil {X : Cx} : PTs X [] tNoIf := fun _ _ _ H _ I h => wpAny_tests_nil ⟨H, I, h⟩
theorem pts_one {X : Cx} {c : Expr} {t : TT} (h : PT X c t) : PTs X [c] t := fun pins s σ H Q I q => wpAny_tests_one (h pins s σ H Q I q)
theorem HOk.take {P : Program} {w : World} {H : Hp} {h : Heap} {a : Addr} {o : HO} (x : HOk P w H h) (hn : H a = none) (new : ObjOk P w (upd H a o) h a o) : HOk P w (upd H a o) h := fun b u e => by
 by_cases hb : b = a
 ·subst hb; rw [upd_same] at e; cases e; exact new
 ·rw [upd_ne hb] at e
  exact (x b u e).stay (fun _ _ _ q => q) (fun c q => by rw [upd_ne (ne_of_none q hn)]; exact q) fun c xs q => by rw [upd_ne (ne_of_none q hn)]; exact q
def blockSt (σ : St) (js : List Nat) : St := js.map fun j => (σ[j]?).getD none
def CompW (js : List Nat) (tt : TT) (te : TE) (σ : St) (Q : VK) (J : It) (H1 : Hp) : Prop := ∃ W : Nat → Nat → List V → Hp → Prop, (∃ m, W 0 m [] H1) ∧ ∀ i m ys H2, W i m ys H2 →
 (J.stop i H2 ∧ ∀ D, H2 D = none → Q (.ref D) (upd H2 D (.lst ys))) ∨
 (J.go i H2 ∧ ys.length < sizeLine ∧ ∃ N : List V → Hp → Prop, (∀ ys' H', N ys' H' → ∃ m', m' < m ∧ W (i + 1) m' ys' H') ∧ ∀ x H3, J.yld i H2 x H3 → tt (some x :: blockSt σ js) H3 fun b H4 =>
  if b = true then te (some x :: blockSt σ js) H4 fun y H5 => N (ys ++ [y]) H5 else N ys H4)
def tComp (wi : TI) (js : List Nat) (tt : TT) (te : TE) : TE := fun σ H Q => wi σ H fun J H1 => CompW js tt te σ Q J H1
abbrev lobj (us : List Value) (n : Nat) : Obj := { cls := .type "list", data := .seq us.toArray n }
section
variable {prog : Program} {w : World} {A : Around} {s : Shared} {R : Result → Shared → Prop}
abbrev NotedR (prog : Program) (w : World) (A : Around) (env : Env) (R : Result → Shared → Prop) : Value → Shared → Prop := notedBy (model prog w) A env fun x t => R (.error x) t
theorem loop_any {elt tg iter : Expr} {ifs : List Expr} {scope : Scope} {pos : Pos} {it acc : Value} {env : Env} (J : Nat → Shared → Prop)
  (step : ∀ k t, J k t → wpAny (model prog w) A (pyNext it) (fun r t1 => match r with
   | none => R (.ok .next) t1
   | some v => wpAny (model prog w) A (letOwnedTupleGo tg it v) (fun _ t2 => wpAny (model prog w) A (assign tg env v) (fun _ t3 =>
     wpAny (model prog w) A (forIn ifs true fun c b => if b = true then do let z ← isTrue c env (eval c env); pure (ForInStep.yield z) else pure (ForInStep.yield b)) (fun z t4 =>
      if z = true then wpAny (model prog w) A (eval elt env) (fun y t5 => wpAny (model prog w) A (call (.builtin "list.append") [acc, y]) (fun _ t6 => ∃ m, m < k ∧ J m t6) (NotedR prog w A env R) t5) (NotedR prog w A env R) t4
      else ∃ m, m < k ∧ J m t4) (NotedR prog w A env R) t3) (NotedR prog w A env R) t2) (NotedR prog w A env R) t1) (NotedR prog w A env R) t)
  (k : Nat) (h : J k s) : codeAny (model prog w) A (.compLoop (.ListComp elt [⟨tg, iter, ifs, 0⟩] scope pos) 0 it acc env) R s := by
 refine codeAny_loop rfl J (fun k t hJ => ?_) k h
 show wpAny _ A ((compTurn (.ListComp elt [⟨tg, iter, ifs, 0⟩] scope pos) 0 it acc env).onRaise (fun y => do noteFrame y env; theTreesLotGoes y)) _ _ t
 refine wpAny_noted ?_
 rw [compTurn_list]
 refine wpAny_bind (wpAny_standAt (wpAny_bind (wpAny_mono (step k t hJ) (fun r t1 q1 => ?_) fun _ _ f => f)))
 cases r with
 | none => exact wpAny_pure q1
 | some v =>
  refine wpAny_bind (wpAny_mono q1 (fun _ t2 q2 => ?_) fun _ _ f => f)
  refine wpAny_bind (wpAny_mono q2 (fun _ t3 q3 => ?_) fun _ _ f => f)
  refine wpAny_bind (wpAny_mono q3 (fun z t4 q4 => ?_) fun _ _ f => f)
  cases z with
  | false => exact wpAny_pure ⟨rfl, q4⟩
  | true => exact wpAny_bind (wpAny_bind (wpAny_mono q4 (fun y t5 q5 => wpAny_bind (wpAny_mono q5 (fun _ t6 q6 => wpAny_pure (wpAny_pure ⟨rfl, q6⟩)) fun _ _ f => f)) fun _ _ f => f))
end
def CompWT (n : Nat) (g : TG) (js : List Nat) (tt : TT) (te : TE) (σ : St) (Q : VK) (J : It) (H1 : Hp) : Prop := ∃ W : Nat → Nat → List V → Hp → Prop, (∃ m, W 0 m [] H1) ∧ ∀ i m ys H2, W i m ys H2 →
 (J.stop i H2 ∧ ∀ D, H2 D = none → Q (.ref D) (upd H2 D (.lst ys))) ∨
 (J.go i H2 ∧ ys.length < sizeLine ∧ ∃ N : List V → Hp → Prop, (∀ ys' H', N ys' H' → ∃ m', m' < m ∧ W (i + 1) m' ys' H') ∧ ∀ x H3, J.yld i H2 x H3 → ∀ v0 : St, v0.length = n → g x (v0 ++ blockSt σ js) H3 fun σ4 H4 =>
  (∃ v1 : St, v1.length = n ∧ σ4 = v1 ++ blockSt σ js) ∧ tt σ4 H4 fun b H5 => if b = true then te σ4 H5 fun y H6 => N (ys ++ [y]) H6 else N ys H5)
def tCompT (wi : TI) (n : Nat) (g : TG) (js : List Nat) (tt : TT) (te : TE) : TE := fun σ H Q => wi σ H fun J H1 => CompWT n g js tt te σ Q J H1
theorem comp_core {X : Cx} {pins : List (Addr × Obj)} {s : Shared} {σ : St} {H : Hp} {Q : VK} {use : Option (Value → Sem Unit)} {R : Value → Shared → Prop} {pos' : Pos} {CW : St → VK → It → Hp → Prop} {elt iter tg : Expr} {xs : List Str} {g : TG} {pos : Pos} {ifs : List Expr} {scope : Scope} {wi : TI} {te : TE} {tt : TT} {fr : List Str} {js : List Nat}
  (hc : X.calm = true) (hi : PI X tg iter wi)
  (hcell : ∀ y ∈ scope.names, y.2 ≠ .cell) (hkind : scope.kind = .function) (hnames : ∀ y ∈ scope.names, y.2 = .local → scope.names.lookup y.1 = some .local)
  (hfr : ∀ y ∈ scope.names, y.2 = .free → X.env.scope.names.lookup y.1 = some .cell) (hjs : js.map (fun j => X.N[j]?) = fr.map some) (hfv : ∀ y ∈ fr, scope.names.lookup y = some .free)
  (hg : ∀ cl C s' H' ex, PG (cxComp X scope cl C (xs ++ fr) s' H' ex) tg g)
  (hb : ∀ cl C s' H' ex, PE (cxComp X scope cl C (xs ++ fr) s' H' ex) elt te ∧ PTs (cxComp X scope cl C (xs ++ fr) s' H' ex) ifs tt)
  (hCW : ∀ σ Q J H1, CW σ Q J H1 → CompWT xs.length g js tt te σ Q J H1) (I : Inv X pins σ H s) (h : wi σ H fun J H1 => CW σ Q J H1)
  (fin : ∀ (s4 : Shared) (H5 : Hp) (D C : Addr) (mC : Str → Option Value), s4.heap.Ns C mC → Inv X pins σ H5 s4 → H5 C = none → C ≠ X.env.locals → C ∉ X.fs → (∀ p ∈ X.pn ++ pins, p.1 ≠ C) → (∀ y c, X.env.cells.lookup y = some c → c ≠ C) → X.s₀.heap.objs.size ≤ C → Q (.ref D) H5 → compPost (model X.prog X.w) X.A X.xe use R (.ref D) C (.ok .next) s4)
  (hs : ∀ z, foldedSetIterable iter X.env z = pure z := by intro _; rfl) :
  wpAny (model X.prog X.w) X.A (comprehension (.ListComp elt [⟨tg, iter, ifs, 0⟩] scope pos) scope X.env pos' (newList []) false (eval iter X.env) use) R X.xe s := by
 have hXk : X.env.scope.kind = .function := I.ok.kind
 obtain ⟨cl, hclos, c1, c2⟩ := closure_has (scope := scope) (env := X.env) fun y hy hk => I.ok.has _ (.inl (hfr y hy hk))
 refine wpAny_comprehension_free rfl hs hclos hkind hnames (thn (hi pins s σ H _ I h) fun xv s1 h1 => thn h1 fun itv s2 h2 => ?_)
 obtain ⟨it, fp, tn, J, H2, rfl, I2, T, st2, f2, hcw⟩ := h2
 obtain ⟨W, ⟨m0, w0⟩, turn⟩ := hCW _ _ _ _ hcw
 refine wpAny_newObj_type (wpAny_newFunctionEnv hcell (by intro y hy; simp at hy) (fun hA nsA sbA => ?_) hkind)
 dsimp only at nsA sbA ⊢
 generalize hG : s2.heap.push { cls := .type "list", dict := none, data := .seq ([] : List Value).toArray } = G at nsA sbA ⊢
 have hC : G.objs.size = s2.heap.objs.size + 1 := by rw [← hG, Heap.size_push]
 have hDC : s2.heap.objs.size ≠ G.objs.size := by rw [hC]; exact Nat.ne_of_lt (Nat.lt_succ_self _)
 have small : ∀ b o, s2.heap.get? b = some o → b ≠ G.objs.size ∧ b ≠ s2.heap.objs.size := fun b o e => ⟨by rw [hC]; exact Nat.ne_of_lt (Nat.lt_succ_of_lt (Heap.lt_size e)), Nat.ne_of_lt (Heap.lt_size e)⟩
 have old : ∀ b o, s2.heap.get? b = some o → hA.get? b = some o := fun b o e => sbA.extBut b o (small b o e).1 (Heap.get?_push_of_some _ (hG ▸ Heap.get?_push_of_some _ e))
 have hDA : hA.get? s2.heap.objs.size = some (lobj [] 0) := sbA.extBut _ _ hDC (Heap.get?_push_of_some _ (hG ▸ Heap.get?_push_size _ rfl))
 have fpo : ∀ b ∈ fp, ∃ o, s2.heap.get? b = some o := fun b hb => let ⟨o, e, _⟩ := T.obj _ _ st2 b hb; ⟨o, e⟩
 have celo : ∀ y c, cl.lookup y = some c → ∃ o, s2.heap.get? c = some o := fun y c e => let ⟨_, o, ho, _⟩ := I2.cell y c (c1 y c e); ⟨o, ho⟩
 have ok' : (cxComp X scope cl G.objs.size (xs ++ fr) s2 H2 fp).Ok := by
  refine ⟨I2.ok.mod, hkind, I2.ok.glob, I2.ok.blt, ?_, fun a b c e1 e2 => I2.ok.inj a b c (c1 a c e1) (c1 b c e2), fun y hy => ?_, fun _ _ z => absurd z (by intro q; cases q), I2.ok.hd, I2.ok.frames, .inl rfl, fun b hb => ?_, I2.bs, Nat.le_trans I2.ok.bsz I2.sz, fun b o e hb => ?_, fun b hb hz => ?_, I2.stack, I2.stkFree⟩
  ·show s2.heap.objs.size ≤ G.objs.size
   rw [hC]; exact Nat.le_succ _
  ·have hy : (relabel scope X.env).names.lookup y = some .cell ∨ (relabel scope X.env).names.lookup y = some .free := hy
   have key : scope.names.lookup y = some .free := by
    rcases hy with hy | hy
    ·rcases relabel_of hy with q | ⟨q, _⟩
     ·exact absurd rfl (hcell _ (PySem.mem_of_lookup q))
     ·exact q
    ·rcases relabel_of hy with q | ⟨q, _⟩
     ·exact q
     ·exact q
   have hm := PySem.mem_of_lookup key
   obtain ⟨c, e⟩ := I.ok.has y (.inl (hfr _ hm rfl))
   exact ⟨c, (c2 _ hm rfl).trans e⟩
  ·obtain ⟨o, e⟩ := fpo b hb
   exact ⟨(small b o e).1, fun y c q => (f2 b hb).2.2.2.2.1 y c (c1 y c q)⟩
  ·obtain ⟨_, _, _, f3, _⟩ := f2 b hb
   rcases f3 with f3 | f3
   ·exact I2.ok.noex b o e f3
   ·exact absurd (Nat.lt_of_lt_of_le (Heap.lt_size e) (Nat.le_trans I2.ok.bsz f3)) (Nat.lt_irrefl _)
  ·obtain ⟨_, n1, n2, _⟩ := f2 b hb
   exact (List.mem_cons.mp (I2.stkSub b hz)).elim n1 n2
 have nofs : s2.heap.objs.size ∉ frs X.stack := fun hz => by
  obtain ⟨_, o, ho, _⟩ := I2.stack.mem hz
  exact Nat.lt_irrefl _ (Heap.lt_size ho)
 have lenB : (blockSt σ js).length = fr.length := by
  have e := congrArg List.length hjs
  rw [List.length_map, List.length_map] at e
  unfold blockSt
  rw [List.length_map]; exact e
 have start' : ∀ t, Inv (cxComp X scope cl G.objs.size (xs ++ fr) s2 H2 fp) [(s2.heap.objs.size, lobj [] 0)] ((xs.map fun _ => none) ++ blockSt σ js) H2 { s2 with heap := hA, toks := t } := fun t => by
  refine ⟨ok', rfl, I2.bare, Un.kept old, ⟨_, nsA, fun i y v e1 e2 e3 => ?_⟩, fun y c e => ?_, I2.hok.fresh (by rw [hC]; exact Nat.le_succ _), fun y c e => I2.freeC y c (c1 y c e), fun p hp => ?_, I2.hok.kept old, ?_⟩
  ·by_cases hix : i < xs.length
   ·rw [List.getElem?_append_left (by rw [List.length_map]; exact hix), List.getElem?_map, gE hix] at e2
    cases e2
   ·obtain ⟨i, rfl⟩ : ∃ j, i = xs.length + j := ⟨i - xs.length, by omega⟩
    have e1 : (xs ++ fr)[xs.length + i]? = some y := e1
    have e1 : fr[i]? = some y := by rw [List.getElem?_append_right (by omega), show xs.length + i - xs.length = i by omega] at e1; exact e1
    have e2 : (blockSt σ js)[i]? = some (some v) := by rw [List.getElem?_append_right (by rw [List.length_map]; omega), List.length_map, show xs.length + i - xs.length = i by omega] at e2; exact e2
    unfold blockSt at e2
    rw [List.getElem?_map] at e2
    obtain ⟨j, ej, e2⟩ := Option.map_eq_some_iff.mp e2
    have hN : X.N[j]? = some y := by
     have q := congrArg (fun l => l[i]?) hjs
     simp only [List.getElem?_map, ej, e1, Option.map_some] at q
     exact Option.some.inj q
    have hσ : σ[j]? = some (some v) := by
     cases z : σ[j]? with
     | none => rw [z] at e2; cases e2
     | some w => rw [z] at e2; exact congrArg some e2
    have hfree := hfv y (List.mem_of_getElem? e1)
    have hm := PySem.mem_of_lookup hfree
    have hce : X.env.scope.names.lookup y = some .cell := hfr _ hm rfl
    obtain ⟨m, _, hl⟩ := I2.loc
    obtain ⟨u, ru, look⟩ := hl j y v hN hσ (.inr (.inl hce))
    refine ⟨u, ru, .inr ⟨.inl (relabel_cell hXk hce hfree), ?_⟩⟩
    rcases look with ⟨k, _⟩ | ⟨_, c, ec, ho⟩
    ·have k : X.env.scope.names.lookup y = some .local := k
     rw [hce] at k; cases k
    ·obtain ⟨o, ho, hd⟩ := ho
     exact ⟨c, (c2 _ hm rfl).trans ec, o, old c o ho, hd⟩
  ·obtain ⟨v, o, ho, hd⟩ := I2.cell y c (c1 y c e)
   exact ⟨v, o, old c o ho, hd⟩
  ·have hp : p ∈ [(s2.heap.objs.size, lobj [] 0)] := hp
   have e := List.mem_singleton.mp hp
   subst e
   exact ⟨hDA, I2.hok.fresh (Nat.le_refl _), hDC, nofs, fun v z => by cases z⟩
  ·show ((xs.map fun _ => none) ++ blockSt σ js).length = (xs ++ fr).length
   rw [List.length_append, List.length_append, List.length_map, lenB]
 have fok : ∀ {us : List Value} {n : Nat} {H' : Hp}, (∀ b ∈ fp, H' b = none) → ∀ b ∈ fp, FpOk (cxComp X scope cl G.objs.size (xs ++ fr) s2 H2 fp) [(s2.heap.objs.size, lobj us n)] H' b := fun {us n H'} hn b hb => by
  obtain ⟨o, e⟩ := fpo b hb
  refine ⟨hn b hb, (small b o e).1, fun hz => (List.mem_cons.mp (I2.stkSub b hz)).elim (f2 b hb).2.1 (f2 b hb).2.2.1, .inl hb, fun y c q => (f2 b hb).2.2.2.2.1 y c (c1 y c q), fun p hp => ?_⟩
  have hp : p ∈ [(s2.heap.objs.size, lobj us n)] := hp
  have ep := List.mem_singleton.mp hp
  subst ep
  exact fun z => (small b o e).2 z.symm
 have loop : ∀ sB : Shared, (∃ t, sB = { s2 with heap := hA, toks := t }) →
   codeAny (model X.prog X.w) X.A (.compLoop (.ListComp elt [⟨tg, iter, ifs, 0⟩] scope pos) 0 (.ref it) (.ref s2.heap.objs.size) (compEnvC scope cl G.objs.size X.env))
    (compPost (model X.prog X.w) X.A X.xe use R (.ref s2.heap.objs.size) G.objs.size) sB := by
  rintro sB ⟨t, rfl⟩
  refine loop_any (fun k s' => ∃ i ys us n v0 H', v0.length = xs.length ∧ Inv (cxComp X scope cl G.objs.size (xs ++ fr) s2 H2 fp) [(s2.heap.objs.size, lobj us n)] (v0 ++ blockSt σ js) H' s' ∧ Vals ys us ∧ ys.length ≤ sizeLine ∧ tn i s'.heap ∧ (∀ b ∈ fp, H' b = none) ∧ W i k ys H') ?_ m0
   ⟨0, [], [], 0, xs.map fun _ => none, H2, List.length_map .., start' t, .nil, Nat.zero_le _, T.keep _ _ _ st2 fun b hb o e => old b o e, fun b hb => (f2 b hb).1, w0⟩
  rintro k s3 ⟨i, ys, us, n, v0, H3, hv0, I3, rv, hlen, st3, fr3, w3⟩
  rcases turn i k ys H3 w3 with ⟨stop, qn⟩ | ⟨go, hlt, N', hN', step⟩
  ·refine thn (T.done (cxComp X scope cl G.objs.size (xs ++ fr) s2 H2 fp) rfl rfl rfl hc i _ s3 _ H3 _ I3 (fok fr3) st3 stop) fun r s4 ⟨hr, I4⟩ => ?_
   subst hr
   obtain ⟨mC, hnC, _⟩ := id I4.loc
   obtain ⟨pD, nD, _, _, _⟩ := I4.pin (s2.heap.objs.size, lobj us n) (by show _ ∈ [] ++ [_]; simp)
   have pD : s4.heap.get? s2.heap.objs.size = some (lobj us n) := pD
   have nD : H3 s2.heap.objs.size = none := nD
   have nC : H3 G.objs.size = none := I4.free
   have D2 : ∀ b o, s2.heap.get? b = some o → b ≠ s2.heap.objs.size := fun b o e => (small b o e).2
   have base4 : Un (frs X.stack) fp H2 H3 s2.heap s4.heap := I4.base
   have u4 : Un (frs X.stack) fp H2 (upd H3 s2.heap.objs.size (.lst ys)) s2.heap s4.heap :=
    {keep := base4.keep
     slot := base4.slot
     free := fun b o e nb hx' => by rw [upd_ne (D2 b o e)]; exact base4.free b o e nb hx'
     there := base4.there
     tups := fun b xs e => by have q := base4.tups b xs e; rw [upd_ne (ne_of_none q nD)]; exact q
     frzs := fun b o u e => by have q := base4.frzs b o u e; rw [upd_ne (ne_of_none q nD)]; exact q
     tbls := fun b ps e => by obtain ⟨more, q⟩ := base4.tbls b ps e; exact ⟨more, by rw [upd_ne (ne_of_none q nD)]; exact q⟩ }
   have I5 : Inv X pins σ (upd H3 s2.heap.objs.size (.lst ys)) s4 := I2.call' (s' := s4) (ch := fp) I4.os u4 (I4.hok.take nD ⟨hlen, us, n, rv, pD⟩) I4.bare fun b hb => by
    obtain ⟨_, g1, _, g3, g4, g5⟩ := f2 b hb
    exact ⟨g3, g1, g4, g5⟩
   have locC : G.objs.size ≠ X.env.locals := fun z => by
    obtain ⟨_, ⟨o, _, _, ho, _⟩, _⟩ := id I2.loc
    exact (small _ o ho).1 z.symm
   have fsC : G.objs.size ∉ X.fs := fun hz => by
    obtain ⟨_, o, ho, _⟩ := I2.ok.funs.mem hz
    have := Nat.lt_of_lt_of_le (Heap.lt_size ho) I2.sz
    rw [hC] at this
    exact Nat.lt_irrefl _ (Nat.lt_of_succ_lt this)
   have pinX : ∀ p ∈ X.pn ++ pins, p.1 ≠ G.objs.size := fun p hp => (small _ _ (I2.pin p hp).1).1
   have nCu : (upd H3 s2.heap.objs.size (.lst ys)) G.objs.size = none := by rw [upd_ne (Ne.symm hDC)]; exact nC
   refine fin s4 _ _ _ mC hnC I5 nCu locC fsC pinX (fun y c q z => ?_) (Nat.le_trans I2.sz (by rw [hC]; exact Nat.le_succ _)) (qn _ nD)
   obtain ⟨v, o, ho, _⟩ := I2.cell y c q
   exact (small c o ho).1 z
  ·refine thn (T.item (cxComp X scope cl G.objs.size (xs ++ fr) s2 H2 fp) rfl rfl rfl hc i _ s3 _ H3 _ I3 (fok fr3) st3 go) fun r s4 ⟨u, hr, h4⟩ => ?_
   subst hr
   refine thn h4 fun _ s5 ⟨v, H5, I5, r5, y5, st5, fr5⟩ => ?_
   have I5' := I5.pinned (fok fr5) (T.obj _ _ st5)
   refine wpAny_mono (hg cl G.objs.size s2 H2 fp _ s5 _ H5 v u _ I5' r5 (step v H5 y5 v0 hv0)) (fun _ s6 ⟨σ6, H6, I6, ⟨w1, hw1, e6⟩, q6⟩ => ?_) fun _ _ f => f.elim
   subst e6
   refine wpAny_mono ((hb cl G.objs.size s2 H2 fp).2 _ s6 _ H6 _ I6 q6) (fun b s7 ⟨H7, I7, q7⟩ => ?_) fun _ _ f => f.elim
   have back : ∀ {s8 : Shared} {H8 : Hp}, Inv (cxComp X scope cl G.objs.size (xs ++ fr) s2 H2 fp) ([(s2.heap.objs.size, lobj us n)] ++ pinsAt fp s5.heap) (w1 ++ blockSt σ js) H8 s8 → tn (i + 1) s8.heap ∧ ∀ b ∈ fp, H8 b = none := fun {s8 H8} I8 => by
    refine ⟨T.keep _ _ _ st5 fun b hb o e => (I8.pin (b, o) (List.mem_append_right _ (List.mem_append_right _ (mem_pinsAt hb e)))).1, fun b hb => ?_⟩
    obtain ⟨o, e, _⟩ := T.obj _ _ st5 b hb
    exact (I8.pin (b, o) (List.mem_append_right _ (List.mem_append_right _ (mem_pinsAt hb e)))).2.1
   cases b with
   | false =>
    obtain ⟨m', hm, w7⟩ := hN' _ _ q7
    obtain ⟨t7, n7⟩ := back I7
    exact ⟨m', hm, i + 1, ys, us, n, w1, H7, hw1, I7.unpinned, rv, hlen, t7, n7, w7⟩
   | true =>
    refine wpAny_mono ((hb cl G.objs.size s2 H2 fp).1 _ s7 _ H7 _ I7 q7) (fun y' s8 ⟨y, H8, I8, r8, q8⟩ => ?_) fun _ _ f => f.elim
    obtain ⟨m', hm, w8⟩ := hN' _ _ q8
    obtain ⟨t8, n8⟩ := back I8
    have I8' := I8.unpinned
    obtain ⟨pD, nD, _, _, _⟩ := I8'.pin (s2.heap.objs.size, lobj us n) (by show _ ∈ [] ++ [_]; simp)
    have pD : s8.heap.get? s2.heap.objs.size = some (lobj us n) := pD
    have nD : H8 s2.heap.objs.size = none := nD
    refine append_at pD (fun h9 hs9 e9 => ?_) (by rw [List.size_toArray, ← rv.length]; exact hlen)
    have e9 : h9.get? s2.heap.objs.size = some (lobj (us ++ [y']) (n + 1)) := by rw [e9]; simp [lobj]
    have J0 : Inv (cxComp X scope cl G.objs.size (xs ++ fr) s2 H2 fp) [] (w1 ++ blockSt σ js) H8 s8 := I8'.pins_of fun p hp => absurd hp (by simp)
    have J9 : Inv (cxComp X scope cl G.objs.size (xs ++ fr) s2 H2 fp) [] (w1 ++ blockSt σ js) H8 { s8 with heap := h9, toks := s8.toks } :=
     J0.turned (it := s2.heap.objs.size) (fun b o hb' e => hs9.extBut b o hb' e) nD hDC (.inr (Nat.le_refl _)) (fun y0 c q z => by
      obtain ⟨o, e⟩ := celo y0 c q
      exact (small c o e).2 z) fun p hp => absurd (show p ∈ ([] : List (Addr × Obj)) from hp) (by simp)
    refine ⟨m', hm, i + 1, ys ++ [y], us ++ [y'], n + 1, w1, H8, hw1, J9.pins_of fun p hp => ?_, rv.append (.cons r8 .nil), (by rw [List.length_append, List.length_singleton]; exact hlt), T.keep _ _ _ t8 fun b hb' o e => hs9.extBut b o (by
     obtain ⟨o', e'⟩ := fpo b hb'
     exact (small b o' e').2) e, n8, w8⟩
    have ep := List.mem_singleton.mp hp
    subst ep
    exact ⟨e9, nD, hDC, nofs, fun v z => by cases z⟩
 exact codeAny_compStart_list (loop _ ⟨_, rfl⟩) (T.self _ 0 _ _ _ (T.keep _ _ _ st2 fun b hb o e => old b o e) (loop _ ⟨_, rfl⟩))
theorem pe_compC {X : Cx} {CW : St → VK → It → Hp → Prop} {elt iter tg : Expr} {xs : List Str} {g : TG} {pos : Pos} {ifs : List Expr} {scope : Scope} {wi : TI} {te : TE} {tt : TT} {fr : List Str} {js : List Nat}
  (hc : X.calm = true) (hi : PI X tg iter wi)
  (hcell : ∀ y ∈ scope.names, y.2 ≠ .cell) (hkind : scope.kind = .function) (hnames : ∀ y ∈ scope.names, y.2 = .local → scope.names.lookup y.1 = some .local)
  (hfr : ∀ y ∈ scope.names, y.2 = .free → X.env.scope.names.lookup y.1 = some .cell) (hjs : js.map (fun j => X.N[j]?) = fr.map some) (hfv : ∀ y ∈ fr, scope.names.lookup y = some .free)
  (hg : ∀ cl C s' H' ex, PG (cxComp X scope cl C (xs ++ fr) s' H' ex) tg g)
  (hb : ∀ cl C s' H' ex, PE (cxComp X scope cl C (xs ++ fr) s' H' ex) elt te ∧ PTs (cxComp X scope cl C (xs ++ fr) s' H' ex) ifs tt)
  (hCW : ∀ σ Q J H1, CW σ Q J H1 → CompWT xs.length g js tt te σ Q J H1) (hs : ∀ z, foldedSetIterable iter X.env z = pure z := by intro _; rfl) :
  PE X (.ListComp elt [⟨tg, iter, ifs, 0⟩] scope pos) (fun σ H Q => wi σ H fun J H1 => CW σ Q J H1) := by
 intro pins s σ H Q I h
 rw [eval_ListComp]
 exact comp_core (use := none) (R := EP X pins σ Q) hc hi hcell hkind hnames hfr hjs hfv hg hb hCW I h (fun s4 H5 D C mC n I5 nC lC fC pC cC sC q => ⟨mC, n, fun h' hsb => ⟨.ref D, H5, I5.turned (t' := s4.toks) (it := C) (fun b o hb' e => hsb.extBut b o hb' e) nC lC (.inr sC) cC pC, rfl, q⟩⟩) hs
theorem compW_T {js : List Nat} {tt : TT} {te : TE} {σ : St} {Q : VK} {J : It} {H1 : Hp} (h : CompW js tt te σ Q J H1) : CompWT 1 (gName 0) js tt te σ Q J H1 := by
 obtain ⟨W, w0, turn⟩ := h
 refine ⟨W, w0, fun i m ys H2 hw => ?_⟩
 rcases turn i m ys H2 hw with h | ⟨h1, h2, N, h3, h4⟩
 ·exact .inl h
 ·refine .inr ⟨h1, h2, N, h3, fun x H3 hy v0 hv => ?_⟩
  obtain ⟨w, rfl⟩ : ∃ w, v0 = [w] := by
   obtain _ | ⟨w, v0⟩ := v0
   ·cases hv
   ·obtain _ | ⟨z, v0⟩ := v0
    ·exact ⟨w, rfl⟩
    ·cases hv
  exact ⟨⟨[some x], rfl, rfl⟩, h4 x H3 hy⟩
theorem pe_comp {X : Cx} {elt iter : Expr} {x : Str} {px pos : Pos} {ifs : List Expr} {scope : Scope} {wi : TI} {te : TE} {tt : TT} {fr : List Str} {js : List Nat}
  (hc : X.calm = true) (hi : PI X (.Name x px) iter wi)
  (hcell : ∀ y ∈ scope.names, y.2 ≠ .cell) (hkind : scope.kind = .function) (hnames : ∀ y ∈ scope.names, y.2 = .local → scope.names.lookup y.1 = some .local) (hx : scope.names.lookup x = some .local)
  (hfr : ∀ y ∈ scope.names, y.2 = .free → X.env.scope.names.lookup y.1 = some .cell) (hnd : (x :: fr).Nodup) (hjs : js.map (fun j => X.N[j]?) = fr.map some) (hfv : ∀ y ∈ fr, scope.names.lookup y = some .free)
  (hb : ∀ cl C s' H' ex, PE (cxComp X scope cl C (x :: fr) s' H' ex) elt te ∧ PTs (cxComp X scope cl C (x :: fr) s' H' ex) ifs tt)
  (hs : ∀ z, foldedSetIterable iter X.env z = pure z := by intro _; rfl) :
  PE X (.ListComp elt [⟨.Name x px, iter, ifs, 0⟩] scope pos) (tComp wi js tt te) :=
 pe_compC (xs := [x]) (g := gName 0) hc hi hcell hkind hnames hfr hjs hfv (fun _ _ _ _ _ => pg_name hnd rfl (.inl (lookup_relabel_local hx)) (.inr (lookup_relabel_local hx))) hb (fun _ _ _ _ h => compW_T h) hs
theorem comp_tup {K : PySem.W.Frag} {a : Addr} {xs : List V} {js : List Nat} {tt : TT} {te : TE} {σ : St} {H : Hp} {Q : VK} (Pv : Nat → List V → Hp → Prop) (h0 : Pv 0 [] H) (hl : ∀ i ys H, i ≤ xs.length → Pv i ys H → SqT K H a xs ∧ ys.length ≤ i) (hz : xs.length ≤ sizeLine)
  (hs : ∀ i x ys H, xs[i]? = some x → Pv i ys H → tt (some x :: blockSt σ js) H fun b H4 => if b = true then te (some x :: blockSt σ js) H4 fun y H5 => Pv (i + 1) (ys ++ [y]) H5 else Pv (i + 1) ys H4)
  (hd : ∀ ys H, Pv xs.length ys H → ∀ D, H D = none → Q (.ref D) (upd H D (.lst ys))) : CompW js tt te σ Q (Itt K a) H := by
 refine ⟨fun i m ys H => i ≤ xs.length ∧ m = xs.length - i ∧ Pv i ys H, ⟨_, Nat.zero_le _, rfl, h0⟩, fun i m ys H2 ⟨hi, hm, hp⟩ => ?_⟩
 obtain ⟨hq, hy⟩ := hl i ys H2 hi hp
 by_cases e : i = xs.length
 ·subst e
  exact .inl ⟨⟨xs, hq, Nat.le_refl _⟩, hd ys H2 hp⟩
 ·have hlt : i < xs.length := Nat.lt_of_le_of_ne hi e
  refine .inr ⟨⟨xs, _, hq, gE hlt⟩, by omega, Pv (i + 1), fun ys' H' hp' => ⟨xs.length - (i + 1), by omega, by omega, rfl, hp'⟩, fun x H3 hy3 => ?_⟩
  obtain ⟨e3, hx⟩ := hy3
  subst e3
  exact hs i x ys H3 (hx xs hq) hp
end L2
namespace L2
open PySem PySem.Spec PyProof.Rows
section
variable {prog : Program} {w : World} {A : Around} {E : Value → Shared → Prop} {s : Shared}
theorem nextT_item {j t : Addr} {i : Nat} {its} {v : Value} {Q : Value → Shared → Prop} (jt : s.heap.IsTupleIter j t i) (tt : s.heap.IsTuple t its) (hv : its[i]? = some v)
  (q : ∀ g, g.IsTupleIter j t (i + 1) → Heap.SameBut j s.heap g → Q v { s with heap := g }) : wpAny (model prog w) A (Builtin.SmallTypes.nextOf (.ref j)) Q E s := by
 obtain ⟨ob, e1, e2, e3⟩ := id jt
 obtain ⟨ot, g1, _, k, g2⟩ := tt
 unfold Builtin.SmallTypes.nextOf
 refine wpAny_bind (wpAny_callSpecial?_slot (name := Str.ofString "__next__") jt.typeIs F.slot_tuple_iterator_next (wpAny_call_entry F.slot_tuple_iterator_next jt.typeIs F.entry_tuple_iterator_next ?_ (F.args_tuple_iterator_next_1 _)))
 show wpAny _ _ (field (.ref j) 0 >>= _) _ _ s
 refine wpAny_bind (wpAny_field e1 e3 (x := .ref t) rfl ?_)
 show wpAny _ _ (ite ((Value.ref t == Value.none) = true) _ _) _ _ s
 rw [if_neg (fun z : (Value.ref t == Value.none) = true => Bool.false_ne_true z)]
 show wpAny _ _ (field (.ref j) 1 >>= _) _ _ s
 refine wpAny_bind (wpAny_field e1 e3 (x := .int i 0) rfl ?_)
 show wpAny _ _ (seqItems? (.ref t) >>= _) _ _ s
 refine wpAny_bind (wpAny_seqItems g1 g2 ?_)
 simp only [Int.toNat_natCast, hv]
 refine wpAny_bind (wpAny_setField e1 e3 (by simp) (wpAny_pure ⟨v, rfl, wpAny_pure (q _ ?_ (Heap.SameBut.update ..))⟩))
 exact ⟨_, Heap.get?_update_self _ e1 (Obj.isFreed_of_fields (Obj.data_mapFields e3 _)), (Obj.cls_mapFields ..).trans e2, by rw [Obj.data_mapFields e3]; simp [rawInt]⟩
theorem nextT_end {j t : Addr} {i : Nat} {its} {Q : Value → Shared → Prop} (hh : A.handled = none) (jt : s.heap.IsTupleIter j t i) (tt : s.heap.IsTuple t its) (hv : its[i]? = none)
  (q : ∀ g x, Heap.ExtBut j s.heap g → (∃ o, g.get? x = some o ∧ o.cls = .type "StopIteration") → E (.ref x) { s with heap := g }) : wpAny (model prog w) A (Builtin.SmallTypes.nextOf (.ref j)) Q E s := by
 obtain ⟨ob, e1, e2, e3⟩ := id jt
 obtain ⟨ot, g1, _, k, g2⟩ := tt
 unfold Builtin.SmallTypes.nextOf
 refine wpAny_bind (wpAny_callSpecial?_slot (name := Str.ofString "__next__") jt.typeIs F.slot_tuple_iterator_next (wpAny_call_entry F.slot_tuple_iterator_next jt.typeIs F.entry_tuple_iterator_next ?_ (F.args_tuple_iterator_next_1 _)))
 show wpAny _ _ (field (.ref j) 0 >>= _) _ _ s
 refine wpAny_bind (wpAny_field e1 e3 (x := .ref t) rfl ?_)
 show wpAny _ _ (ite ((Value.ref t == Value.none) = true) _ _) _ _ s
 rw [if_neg (fun z : (Value.ref t == Value.none) = true => Bool.false_ne_true z)]
 show wpAny _ _ (field (.ref j) 1 >>= _) _ _ s
 refine wpAny_bind (wpAny_field e1 e3 (x := .int i 0) rfl ?_)
 show wpAny _ _ (seqItems? (.ref t) >>= _) _ _ s
 refine wpAny_bind (wpAny_seqItems g1 g2 ?_)
 simp only [Int.toNat_natCast, hv]
 refine wpAny_bind (wpAny_rule (wpAny_bind (wpAny_setField e1 e3 (by simp) ?_)))
 show wpAny _ _ (newExc (.type "StopIteration") [] >>= _) _ _ _
 refine wpAny_bind ?_
 simp only [newExc, newTuple]
 refine wpAny_bind (wpAny_newObj_type ?_ (by size_fits))
 refine wpAny_bind (m := firstArgMember _ _) (wpAny_of_eq (a := Value.none) (by first | rfl | (unfold firstArgMember; rfl)) ?_)
 refine wpAny_newObj_type ?_ (by size_fits)
 simp only [raiseNew]
 refine wpAny_bind (wpAny_handled ?_)
 first | rw [show A.in1.handled = none from hh] | rw [hh]
 exact wpAny_bind (wpAny_pure (wpAny_throw (q _ _ (((Heap.SameBut.update ..).extBut.push _).push _) ⟨_, Heap.get?_push_size _ rfl, rfl⟩)))
structure ZAp (z TI TO i1 i2 a b : Addr) : Prop where
 p1 : TI ≠ z
 p2 : TO ≠ z
 p3 : i1 ≠ z
 p4 : i2 ≠ z
 p5 : TI ≠ TO
 p6 : TI ≠ i1
 p7 : TI ≠ i2
 p8 : TO ≠ i1
 p9 : TO ≠ i2
 p10 : i1 ≠ i2
 a1 : a ≠ z
 a2 : a ≠ TO
 a3 : a ≠ i1
 a4 : a ≠ i2
 b1 : b ≠ z
 b2 : b ≠ TO
 b3 : b ≠ i1
 b4 : b ≠ i2
end
section
open AutoSeq1 (wpAny_loadPart')
end
end L2
namespace L2
open PySem PySem.Spec PyProof.Rows
section
variable {X : Cx}
structure Z5 (z TI TO i1 i2 : Addr) : Prop where
 p1 : TI ≠ z
 p2 : TO ≠ z
 p3 : i1 ≠ z
 p4 : i2 ≠ z
 p5 : TI ≠ TO
 p6 : TI ≠ i1
 p7 : TI ≠ i2
 p8 : TO ≠ i1
 p9 : TO ≠ i2
 p10 : i1 ≠ i2
theorem Inv.turnAll {pins : List (Addr × Obj)} {σ : St} {H H' : Hp} {s : Shared} {g : Heap} {ch : List Addr} (I : Inv X pins σ H s) (hf : ∀ b ∈ ch, FpOk X pins H b)
  (k : ∀ b o, b ∉ ch → s.heap.get? b = some o → g.get? b = some o) (hH : ∀ b u, H b = some u → H' b = some u) (hN : ∀ b o, s.heap.get? b = some o → H b = none → H' b = none) (hok : HOk X.prog X.w H' g) : Inv X pins σ H' { s with heap := g } := by
 refine I.step (g' := s.gens) (d' := s.drawn) (t' := s.toks) (ch := ch) (fun b hb => ?_) (fun b o _ _ hc e _ => k b o hc e) (fun b o _ _ hc e _ => ⟨o.slots, k b o hc e⟩) (fun b o _ e n => hN b o e n)
  (fun b o hc e => ⟨o, k b o hc e⟩) (fun b xs e => hH b _ e) (fun b o u e => hH b _ e) (fun b ps e => ⟨#[], by rw [hH b _ e]; simp⟩) (fun m hm => ?_) hok I.bare
 ·obtain ⟨_, f1, _, f3, f4, f5⟩ := hf b hb
  exact ⟨f3, f1, f4, f5⟩
 ·obtain ⟨o, es, ep, ho, r⟩ := hm
  exact ⟨o, es, ep, k _ o (fun hb => (hf _ hb).2.1 rfl) ho, r⟩
end
end L2
namespace L2
open PySem PySem.Spec PyProof.Rows
theorem Same.put {H H1 : Hp} (e : Same H H1) {p : Addr} {o : HO} (h : H1 p = none) : Same H (upd H1 p o) := fun b u q => by rw [upd_ne (ne_of_none (e b u q) h)]; exact e b u q
section
variable {X : Cx} {pins : List (Addr × Obj)} {σ : St} {H : Hp} {s : Shared} {pos : Pos}
theorem Inv.big (I : Inv X pins σ H s) : sysModules < s.heap.objs.size := by
 have h : mainGlobals < s.heap.objs.size := (I.mod.glob.keeps I.bk).lt
 exact Nat.lt_trans (by decide) h
theorem dk_empty {P : Program} {w : World} {H : Hp} (h : Heap) (hb : sysModules < h.objs.size) : ObjOk P w H (h.push { cls := .type "dict", data := .dict #[] }) h.objs.size (.dK []) :=
 ⟨Nat.zero_le _, beq_eq_false_iff_ne.mpr (Ne.symm (Nat.ne_of_lt hb)), [], .nil, Heap.DictOf.new h⟩
end
end L2
namespace L2
open PySem PySem.Spec PyProof.Rows
section
variable {X : Cx}
theorem PE.imp {e : Expr} {t t' : TE} (h : PE X e t) (i : ∀ σ H Q, t' σ H Q → t σ H Q) : PE X e t' := fun pins s σ H Q I q => h pins s σ H Q I (i σ H Q q)
theorem OpR.imp {f : Value → Value → Sem Value} {r r' : R2} (h : OpR X f r) (i : ∀ x y H Q, r' x y H Q → r x y H Q) : OpR X f r' := fun pins s σ H x y v u Q I rx ry q => h pins s σ H x y v u Q I rx ry (i x y H Q q)
theorem CallR.imp {f : Value} {r r' : List V → Hp → VK → Prop} (h : CallR X f r) (i : ∀ xs H Q, r' xs H Q → r xs H Q) : CallR X f r' := fun pins s σ H xs us Q I rv q => h pins s σ H xs us Q I rv (i xs H Q q)
theorem SlR.imp {r r' : V → Option Int → Option Int → Hp → VK → Prop} (h : SlR X r) (i : ∀ x lo hi H Q, r' x lo hi H Q → r x lo hi H Q) : SlR X r' := fun pins s σ H x v vl vu lo hi sl Q I rx hs pl pu q => h pins s σ H x v vl vu lo hi sl Q I rx hs pl pu (i x lo hi H Q q)
def tACut (t : TA) : TA := fun σ H R => ∃ R' : List V → Hp → Prop, (∀ xs H, R' xs H → R xs H) ∧ t σ H R'
theorem PA.cut {es : List Expr} {t : TA} (h : PA X es t) : PA X es (tACut t) := fun pos pins s σ H Q I ⟨R', i, q⟩ =>
 thn (h pos pins s σ H R' I q) fun us s' ⟨vs, H', I', rv, q'⟩ => ⟨vs, H', I', rv, i _ _ q'⟩
def New (H : Hp) (o : HO) (Q : VK) : Prop := ∀ p H', Same H H' → H' p = some o → Q (.ref p) H'
theorem New.of {H : Hp} {o : HO} {Q : VK} (h : New H o Q) : ∀ p, H p = none → Q (.ref p) (upd H p o) := fun p hp => h p _ (Same.put (Same.refl H) hp) upd_same
def tTupA (t : TA) : TE := fun σ H Q => t σ H fun xs H1 => xs.length ≤ sizeLine ∧ New H1 (.tup xs) Q
def tLstA (t : TA) : TE := fun σ H Q => t σ H fun xs H1 => xs.length ≤ sizeLine ∧ New H1 (.lst xs) Q
theorem pe_tupA {es : List Expr} {t : TA} {x1} {pos : Pos} (h : PA X es t) : PE X (.Tuple es x1 pos) (tTupA t) := (pe_tup h.cut).imp fun _ _ _ q => ⟨_, fun _ _ z => ⟨z.1, z.2.of⟩, q⟩
theorem pe_lstA {es : List Expr} {t : TA} {pos : Pos} (h : PA X es t) : PE X (.List es pos) (tLstA t) := (pe_lst h.cut).imp fun _ _ _ q => ⟨_, fun _ _ z => ⟨z.1, z.2.of⟩, q⟩
end
end L2
namespace L2
open PySem PySem.Spec PyProof.Rows
inductive Dt where
 | non | bl (b : Bool) | int (i : Int) | str (x : Str) | tup (ds : List Dt) | oth (T : String)
mutual
inductive IsD (H : Hp) : V → Dt → Prop where
 | non : IsD H .non .non
 | bl (b : Bool) : IsD H (.bl b) (.bl b)
 | int (i : Int) : IsD H (.int i) (.int i)
 | str (x : Str) : IsD H (.str x) (.str x)
 | tup {a : Addr} {xs : List V} {ds : List Dt} (h : H a = some (.tup xs)) (r : IsDs H xs ds) : IsD H (.ref a) (.tup ds)
 | lst {a : Addr} {xs : List V} (h : H a = some (.lst xs)) : IsD H (.ref a) (.oth "list")
 | dct {a : Addr} {kvs : List (Key × V)} (h : H a = some (.dK kvs)) : IsD H (.ref a) (.oth "dict")
inductive IsDs (H : Hp) : List V → List Dt → Prop where
 | nil : IsDs H [] []
 | cons {x : V} {d : Dt} {xs : List V} {ds : List Dt} (h : IsD H x d) (r : IsDs H xs ds) : IsDs H (x :: xs) (d :: ds)
end
mutual
theorem IsD.same {H H' : Hp} (e : Same H H') : ∀ {v : V} {d : Dt}, IsD H v d → IsD H' v d
 | _, _, .non => .non
 | _, _, .bl b => .bl b
 | _, _, .int i => .int i
 | _, _, .str x => .str x
 | _, _, .tup h r => .tup (e _ _ h) (IsDs.same e r)
 | _, _, .lst h => .lst (e _ _ h)
 | _, _, .dct h => .dct (e _ _ h)
theorem IsDs.same {H H' : Hp} (e : Same H H') : ∀ {vs : List V} {ds : List Dt}, IsDs H vs ds → IsDs H' vs ds
 | _, _, .nil => .nil
 | _, _, .cons h r => .cons (IsD.same e h) (IsDs.same e r)
end
mutual
theorem IsD.inj {H : Hp} : ∀ {v : V} {d e : Dt}, IsD H v d → IsD H v e → d = e
 | _, _, _, .non, .non => rfl
 | _, _, _, .bl _, .bl _ => rfl
 | _, _, _, .int _, .int _ => rfl
 | _, _, _, .str _, .str _ => rfl
 | _, _, _, .tup h r, q => by
  cases q with
  | tup h' r' => rw [h] at h'; cases h'; rw [IsDs.inj r r']
  | lst h' => rw [h] at h'; cases h'
  | dct h' => rw [h] at h'; cases h'
 | _, _, _, .lst h, q => by
  cases q with
  | tup h' r' => rw [h] at h'; cases h'
  | lst h' => rfl
  | dct h' => rw [h] at h'; cases h'
 | _, _, _, .dct h, q => by
  cases q with
  | tup h' r' => rw [h] at h'; cases h'
  | lst h' => rw [h] at h'; cases h'
  | dct h' => rfl
theorem IsDs.inj {H : Hp} : ∀ {vs : List V} {ds es : List Dt}, IsDs H vs ds → IsDs H vs es → ds = es
 | _, _, _, .nil, .nil => rfl
 | _, _, _, .cons h r, .cons h' r' => by rw [IsD.inj h h', IsDs.inj r r']
end
section
variable {H : Hp}
theorem IsDs.length : ∀ {xs : List V} {ds : List Dt}, IsDs H xs ds → xs.length = ds.length
 | _, _, .nil => rfl
 | _, _, .cons _ r => by rw [List.length_cons, List.length_cons, IsDs.length r]
theorem IsDs.get : ∀ {xs : List V} {ds : List Dt} {i : Nat} {x : V}, IsDs H xs ds → xs[i]? = some x → ∃ d, ds[i]? = some d ∧ IsD H x d
 | _, _, _, _, .nil, e => by simp at e
 | _, _, 0, _, .cons h _, e => by simp at e; subst e; exact ⟨_, rfl, h⟩
 | _, _, i + 1, x, .cons _ r, e => by
  obtain ⟨d, h1, h2⟩ := IsDs.get (i := i) (x := x) r (by simpa using e)
  exact ⟨d, by simpa using h1, h2⟩
theorem IsDs.at : ∀ {xs : List V} {ds : List Dt} {i : Nat} {d : Dt}, IsDs H xs ds → ds[i]? = some d → ∃ x, xs[i]? = some x ∧ IsD H x d
 | _, _, _, _, .nil, e => by simp at e
 | _, _, 0, _, .cons h _, e => by simp at e; subst e; exact ⟨_, rfl, h⟩
 | _, _, i + 1, d, .cons _ r, e => by
  obtain ⟨x, h1, h2⟩ := IsDs.at (i := i) (d := d) r (by simpa using e)
  exact ⟨x, by simpa using h1, h2⟩
theorem IsDs.append : ∀ {xs ys : List V} {ds es : List Dt}, IsDs H xs ds → IsDs H ys es → IsDs H (xs ++ ys) (ds ++ es)
 | _, _, _, _, .nil, s => s
 | _, _, _, _, .cons h r, s => .cons h (IsDs.append r s)
theorem IsDs.take : ∀ {xs : List V} {ds : List Dt} (n : Nat), IsDs H xs ds → IsDs H (xs.take n) (ds.take n)
 | _, _, 0, _ => .nil
 | _, _, _ + 1, .nil => .nil
 | _, _, n + 1, .cons h r => .cons h (IsDs.take n r)
theorem IsDs.drop : ∀ {xs : List V} {ds : List Dt} (n : Nat), IsDs H xs ds → IsDs H (xs.drop n) (ds.drop n)
 | _, _, 0, r => r
 | _, _, _ + 1, .nil => .nil
 | _, _, n + 1, .cons _ r => IsDs.drop n r
theorem IsDs.one {x : V} {d : Dt} (h : IsD H x d) : IsDs H [x] [d] := .cons h .nil
theorem IsDs.ints : ∀ (ns : List Int), IsDs H (ns.map V.int) (ns.map Dt.int)
 | [] => .nil
 | n :: r => .cons (.int n) (IsDs.ints r)
theorem IsDs.strs : ∀ (ns : List Str), IsDs H (ns.map V.str) (ns.map Dt.str)
 | [] => .nil
 | n :: r => .cons (.str n) (IsDs.strs r)
theorem IsDs.ints_of : ∀ {xs : List V} {ns : List Int}, IsDs H xs (ns.map Dt.int) → xs = ns.map V.int
 | _, [], .nil => rfl
 | _, n :: r, .cons h q => by cases h; rw [IsDs.ints_of q]; rfl
theorem IsD.tup_of {v : V} {ds : List Dt} (h : IsD H v (.tup ds)) : ∃ a xs, v = .ref a ∧ H a = some (.tup xs) ∧ IsDs H xs ds := by
 cases h with
 | tup h r => exact ⟨_, _, rfl, h, r⟩
theorem IsD.int_of {v : V} {i : Int} (h : IsD H v (.int i)) : v = .int i := by cases h; rfl
end
def Dt.ty : Dt → String
 | .non => "NoneType" | .bl _ => "bool" | .int _ => "int" | .str _ => "str" | .tup _ => "tuple" | .oth T => T
theorem IsD.tyn {H : Hp} {v : V} {d : Dt} (h : IsD H v d) : tyn H v = some d.ty := by
 cases h with
 | tup h r => simp only [L2.tyn]; rw [h]; rfl
 | lst h => simp only [L2.tyn]; rw [h]; rfl
 | dct h => simp only [L2.tyn]; rw [h]; rfl
 | _ => rfl
mutual
def eqD : Dt → Dt → Bool
 | .non, .non => true
 | .bl a, .bl b => a == b
 | .bl a, .int b => (if a then 1 else 0) == b
 | .int a, .bl b => a == (if b then 1 else 0)
 | .int a, .int b => a == b
 | .str a, .str b => a == b
 | .tup xs, .tup ys => eqDs xs ys
 | _, _ => false
def eqDs : List Dt → List Dt → Bool
 | [], [] => true
 | x :: xs, y :: ys => eqD x y && eqDs xs ys
 | _, _ => false
end
mutual
def pl : Dt → Bool
 | .oth _ => false
 | .tup ds => pls ds
 | _ => true
def pls : List Dt → Bool
 | [] => true
 | d :: ds => pl d && pls ds
end
mutual
def dep : Dt → Nat
 | .tup ds => deps ds + 1
 | _ => 0
def deps : List Dt → Nat
 | [] => 0
 | d :: ds => max (dep d) (deps ds)
end
mutual
theorem eqD_refl : ∀ d : Dt, pl d = true → eqD d d = true
 | .non, _ => by unfold eqD; rfl
 | .bl b, _ => by unfold eqD; exact beq_self_eq_true b
 | .int i, _ => by unfold eqD; exact beq_self_eq_true i
 | .str x, _ => by unfold eqD; exact beq_self_eq_true x
 | .tup ds, h => by
  unfold eqD
  unfold pl at h
  exact eqDs_refl ds h
 | .oth T, h => by unfold pl at h; cases h
theorem eqDs_refl : ∀ ds : List Dt, pls ds = true → eqDs ds ds = true
 | [], _ => by unfold eqDs; rfl
 | d :: ds, h => by
  unfold eqDs
  unfold pls at h
  rw [Bool.and_eq_true] at h
  rw [eqD_refl d h.1, eqDs_refl ds h.2]; rfl
end
theorem eqD_tup (xs ys : List Dt) : eqD (.tup xs) (.tup ys) = eqDs xs ys := by unfold eqD; rfl
theorem eqDs_all : ∀ (ds es : List Dt), eqDs ds es = ((List.range (min ds.length es.length)).all (fun j => eqD (ds.getD j .non) (es.getD j .non)) && ds.length == es.length)
 | [], [] => by unfold eqDs; rfl
 | [], e :: es => by unfold eqDs; simp
 | d :: ds, [] => by unfold eqDs; simp
 | d :: ds, e :: es => by
  unfold eqDs
  rw [eqDs_all ds es]
  rw [List.length_cons, List.length_cons]
  have h1 : min (ds.length + 1) (es.length + 1) = min ds.length es.length + 1 := by omega
  rw [h1, List.range_succ_eq_map, List.all_cons, List.all_map]
  have h2 : ((ds.length + 1) == (es.length + 1)) = (ds.length == es.length) := by rw [Bool.eq_iff_iff]; simp
  rw [h2, Bool.and_assoc]
  rfl
theorem pls_get : ∀ {ds : List Dt} {i : Nat} {d : Dt}, pls ds = true → ds[i]? = some d → pl d = true
 | [], _, _, _, e => by simp at e
 | d :: ds, 0, _, h, e => by
  unfold pls at h
  rw [Bool.and_eq_true] at h
  simp at e; subst e; exact h.1
 | d :: ds, i + 1, x, h, e => by
  unfold pls at h
  rw [Bool.and_eq_true] at h
  exact pls_get (i := i) h.2 (by simpa using e)
theorem deps_get : ∀ {ds : List Dt} {i : Nat} {d : Dt}, ds[i]? = some d → dep d ≤ deps ds
 | [], _, _, e => by simp at e
 | d :: ds, 0, _, e => by
  simp at e; subst e
  unfold deps
  exact Nat.le_max_left _ _
 | d :: ds, i + 1, x, e => by
  have := deps_get (ds := ds) (i := i) (d := x) (by simpa using e)
  unfold deps
  exact Nat.le_trans this (Nat.le_max_right _ _)
section
variable {X : Cx} {pins : List (Addr × Obj)} {σ : St} {H : Hp} {s : Shared}
theorem Inv.tupD {v : V} {ds : List Dt} {u : Value} (I : Inv X pins σ H s) (h : IsD H v (.tup ds)) (r : RelV v u) : ∃ a its, u = .ref a ∧ v = .ref a ∧ s.heap.IsTuple a its.toArray ∧ ∃ xs, Vals xs its ∧ IsDs H xs ds ∧ its.length = ds.length := by
 obtain ⟨a, xs, rfl, ha, hd⟩ := h.tup_of
 cases (show u = Value.ref a from r)
 obtain ⟨its, rv, p, _⟩ := I.tuple (SqT.of (K := X.K) ha)
 exact ⟨a, its, rfl, rfl, p, xs, rv, hd, by rw [← rv.length, hd.length]⟩
theorem eqAt_D : ∀ (n : Nat) {A : Around} {x y : V} {u v : Value} {d e : Dt}, dep d ≤ n → A.units + n < cLine → Inv X pins σ H s → IsD H x d → IsD H y e → RelV x u → RelV y v → pl d = true → pl e = true → SeqAt.EqAt A s u v (eqD d e) := by
 intro n
 induction n with
 | zero =>
  intro A x y u v d e hd hu I ix iy rx ry px py
  cases ix with
  | tup h r => unfold dep at hd; omega
  | lst h => unfold pl at px; cases px
  | dct h => unfold pl at px; cases px
  | non =>
   cases iy with
   | tup h' r' =>
    obtain ⟨a, its, rfl, _, hb, _⟩ := I.tupD (.tup h' r') ry
    cases rx
    exact SeqAt.EqAt.none_tuple hb (by omega)
   | lst h' => unfold pl at py; cases py
   | dct h' => unfold pl at py; cases py
   | non => exact eqAt_V rx ry rfl rfl
   | bl b => exact eqAt_V rx ry rfl rfl
   | int b => exact eqAt_V rx ry rfl rfl
   | str b => exact eqAt_V rx ry rfl rfl
  | bl b =>
   cases iy with
   | tup h' r' =>
    obtain ⟨a, its, rfl, _, hb, _⟩ := I.tupD (.tup h' r') ry
    cases rx
    exact SeqAt.EqAt.bool_tuple b hb (by omega)
   | lst h' => unfold pl at py; cases py
   | dct h' => unfold pl at py; cases py
   | non => exact eqAt_V rx ry rfl rfl
   | bl b => exact eqAt_V rx ry rfl rfl
   | int b => exact eqAt_V rx ry rfl rfl
   | str b => exact eqAt_V rx ry rfl rfl
  | int i =>
   cases iy with
   | tup h' r' =>
    obtain ⟨a, its, rfl, _, hb, _⟩ := I.tupD (.tup h' r') ry
    obtain ⟨t, rfl⟩ := rx
    exact SeqAt.EqAt.int_tuple i t hb (by omega)
   | lst h' => unfold pl at py; cases py
   | dct h' => unfold pl at py; cases py
   | non => exact eqAt_V rx ry rfl rfl
   | bl b => exact eqAt_V rx ry rfl rfl
   | int b => exact eqAt_V rx ry rfl rfl
   | str b => exact eqAt_V rx ry rfl rfl
  | str z =>
   cases iy with
   | tup h' r' =>
    obtain ⟨a, its, rfl, _, hb, _⟩ := I.tupD (.tup h' r') ry
    obtain ⟨t, rfl⟩ := rx
    exact SeqAt.EqAt.str_tuple z t hb (by omega)
   | lst h' => unfold pl at py; cases py
   | dct h' => unfold pl at py; cases py
   | non => exact eqAt_V rx ry rfl rfl
   | bl b => exact eqAt_V rx ry rfl rfl
   | int b => exact eqAt_V rx ry rfl rfl
   | str b => exact eqAt_V rx ry rfl rfl
 | succ n ih =>
  intro A x y u v d e hd hu I ix iy rx ry px py
  by_cases hz : dep d = 0
  ·
   cases ix with
   | tup h r => unfold dep at hz; omega
   | lst h => unfold pl at px; cases px
   | dct h => unfold pl at px; cases px
   | non => exact ih (by rw [hz]; exact Nat.zero_le _) (by omega) I .non iy rx ry px py
   | bl b => exact ih (by rw [hz]; exact Nat.zero_le _) (by omega) I (.bl b) iy rx ry px py
   | int i => exact ih (by rw [hz]; exact Nat.zero_le _) (by omega) I (.int i) iy rx ry px py
   | str z => exact ih (by rw [hz]; exact Nat.zero_le _) (by omega) I (.str z) iy rx ry px py
  ·cases ix with
   | lst h => unfold pl at px; cases px
   | dct h => unfold pl at px; cases px
   | non => exact absurd (by unfold dep; rfl) hz
   | bl b => exact absurd (by unfold dep; rfl) hz
   | int i => exact absurd (by unfold dep; rfl) hz
   | str z => exact absurd (by unfold dep; rfl) hz
   | tup h r =>
    rename_i a xs ds
    cases (show u = Value.ref a from rx)
    obtain ⟨its, rv, p, _⟩ := I.tuple (SqT.of (K := X.K) h)
    have p : s.heap.IsTuple a its.toArray := p
    cases iy with
    | lst h' => unfold pl at py; cases py
    | dct h' => unfold pl at py; cases py
    | non => cases ry; exact SeqAt.EqAt.tuple_none p (by omega)
    | bl b => cases ry; exact SeqAt.EqAt.tuple_bool b p (by omega)
    | int b => obtain ⟨t, rfl⟩ := ry; exact SeqAt.EqAt.tuple_int b t p (by omega)
    | str b => obtain ⟨t, rfl⟩ := ry; exact SeqAt.EqAt.tuple_str b t p (by omega)
    | tup h' r' =>
     rename_i b ys es
     cases (show v = Value.ref b from ry)
     by_cases hab : a = b
     ·subst hab
      have e1 : Dt.tup ds = Dt.tup es := IsD.inj (.tup h r) (.tup h' r')
      rw [e1]
      rw [eqD_refl _ py]
      exact SeqAt.EqAt.same _
     ·obtain ⟨its2, rv2, p2, _⟩ := I.tuple (SqT.of (K := X.K) h')
      have p2 : s.heap.IsTuple b its2.toArray := p2
      have l1 : its.length = ds.length := by rw [← rv.length, r.length]
      have l2 : its2.length = es.length := by rw [← rv2.length, r'.length]
      have pd : pls ds = true := by unfold pl at px; exact px
      have pe : pls es = true := by unfold pl at py; exact py
      have hd' : deps ds ≤ n := by unfold dep at hd; omega
      have key := SeqAt.RcAt.tuples (A := A) (e := fun j => eqD (ds.getD j .non) (es.getD j .non)) p p2 (by omega) fun j h1 h2 => by
       have h1' : j < its.length := by simpa using h1
       have h2' : j < its2.length := by simpa using h2
       obtain ⟨x', ex, dx⟩ := r.at (i := j) (d := ds[j]'(by omega)) (gE (by omega))
       obtain ⟨y', ey, dy⟩ := r'.at (i := j) (d := es[j]'(by omega)) (gE (by omega))
       obtain ⟨u', eu, ru⟩ := rv.get ex
       obtain ⟨v', ev, rw'⟩ := rv2.get ey
       have eu' : its[j] = u' := by rw [gE h1'] at eu; exact Option.some.inj eu
       have ev' : its2[j] = v' := by rw [gE h2'] at ev; exact Option.some.inj ev
       have g1 : ds.getD j .non = ds[j]'(by omega) := by rw [List.getD_eq_getElem?_getD, gE (by omega)]; rfl
       have g2 : es.getD j .non = es[j]'(by omega) := by rw [List.getD_eq_getElem?_getD, gE (by omega)]; rfl
       show SeqAt.EqAt A.in1 s (its.toArray[j]) (its2.toArray[j]) (eqD (ds.getD j .non) (es.getD j .non))
       rw [List.getElem_toArray, List.getElem_toArray, eu', ev', g1, g2]
       exact ih (Nat.le_trans (deps_get (gE (by omega))) hd') (by show A.units + 1 + n < cLine; omega) I dx dy ru rw' (pls_get pd (gE (by omega))) (pls_get pe (gE (by omega)))
      have e2 : eqD (.tup ds) (.tup es) = ((List.range (min its.toArray.size its2.toArray.size)).all (fun j => eqD (ds.getD j .non) (es.getD j .non)) && its.toArray.size == its2.toArray.size) := by
       rw [eqD_tup, eqDs_all, List.size_toArray, List.size_toArray, l1, l2]
      rw [e2]
      exact SeqAt.EqAt.of_refs hab key
theorem op_eqD (hu : X.A.units + 64 < cLine) : OpR X (compareOp .Eq) (fun x y H Q => ∃ ds es, IsD H x (.tup ds) ∧ IsD H y (.tup es) ∧ pls ds = true ∧ pls es = true ∧ deps ds < 60 ∧ Q (.bl (eqDs ds es)) H) := by
 intro pins s σ H x y v u Q I rx ry h
 obtain ⟨ds, es, ix, iy, pd, pe, hd, q⟩ := h
 obtain ⟨a, xs, rfl, ha, r⟩ := ix.tup_of
 obtain ⟨b, ys, rfl, hb, r'⟩ := iy.tup_of
 cases (show v = Value.ref a from rx)
 cases (show u = Value.ref b from ry)
 obtain ⟨its, rv, p, _⟩ := I.tuple (SqT.of (K := X.K) ha)
 obtain ⟨its2, rv2, p2, _⟩ := I.tuple (SqT.of (K := X.K) hb)
 have p : s.heap.IsTuple a its.toArray := p
 have p2 : s.heap.IsTuple b its2.toArray := p2
 have l1 : its.length = ds.length := by rw [← rv.length, r.length]
 have l2 : its2.length = es.length := by rw [← rv2.length, r'.length]
 refine SeqAt.eq_tupleAt (e := fun j => eqD (ds.getD j .non) (es.getD j .non)) p p2 (by omega) (fun j h1 h2 => ?_) (fin_bl I q ?_)
 ·have h1' : j < its.length := by simpa using h1
  have h2' : j < its2.length := by simpa using h2
  obtain ⟨x', ex, dx⟩ := r.at (i := j) (d := ds[j]'(by omega)) (gE (by omega))
  obtain ⟨y', ey, dy⟩ := r'.at (i := j) (d := es[j]'(by omega)) (gE (by omega))
  obtain ⟨u', eu, ru⟩ := rv.get ex
  obtain ⟨v', ev, rw'⟩ := rv2.get ey
  have eu' : its[j] = u' := by rw [gE h1'] at eu; exact Option.some.inj eu
  have ev' : its2[j] = v' := by rw [gE h2'] at ev; exact Option.some.inj ev
  have g1 : ds.getD j .non = ds[j]'(by omega) := by rw [List.getD_eq_getElem?_getD, gE (by omega)]; rfl
  have g2 : es.getD j .non = es[j]'(by omega) := by rw [List.getD_eq_getElem?_getD, gE (by omega)]; rfl
  show SeqAt.EqAt X.A.in1 s (its.toArray[j]) (its2.toArray[j]) (eqD (ds.getD j .non) (es.getD j .non))
  rw [List.getElem_toArray, List.getElem_toArray, eu', ev', g1, g2]
  exact eqAt_D 60 (Nat.le_trans (deps_get (gE (by omega))) (by omega)) (by show X.A.units + 1 + 60 < cLine; omega) I dx dy ru rw' (pls_get pd (gE (by omega))) (pls_get pe (gE (by omega)))
 ·rw [eqDs_all, List.size_toArray, List.size_toArray, l1, l2]
end
end L2
namespace L2
open PySem PySem.Spec PyProof.Rows
section
variable {X : Cx}
theorem call_tupA : CallR X (.type "tuple") (fun xs H Q => ∃ p ys, xs = [.ref p] ∧ SqL X.K H p ys ∧ New H (.tup ys) Q) :=
 call_tuple_of.imp fun _ _ _ ⟨p, ys, e, h, q⟩ => ⟨p, ys, e, .inl ⟨h, q.of⟩⟩
theorem sl_listA : SlR X (fun x lo hi H Q => ∃ a xs, x = .ref a ∧ SqL X.K H a xs ∧ New H (.lst (cutV xs lo hi)) Q) :=
 sl_list.imp fun _ _ _ _ _ ⟨a, xs, e, h, q⟩ => ⟨a, xs, e, h, q.of⟩
theorem kit_str (K : PySem.W.Frag) {T : String} (h : T ∈ ["NoneType", "bool", "int", "str", "list", "tuple", "dict"]) : PySem.W.kitOne K (.type T) (.type "str") = some (T == "str") := by
 simp only [List.mem_cons, List.not_mem_nil, or_false] at h
 rcases h with rfl | rfl | rfl | rfl | rfl | rfl | rfl <;> kernel_rfl
theorem call_isStr : CallR X (.builtin "isinstance") (fun xs H Q => ∃ x T, xs = [x, .ty "str"] ∧ tyn H x = some T ∧ Q (.bl (T == "str")) H) :=
 fun pins s σ H xs us Q I r ⟨x, T, e, hT, q⟩ => call_isinst pins s σ H xs us Q I r ⟨x, _, _, _, e, .byName hT, kit_str _ (tyn_mem hT), q⟩
end
theorem comp_list {K : PySem.W.Frag} {a : Addr} {xs : List V} {js : List Nat} {tt : TT} {te : TE} {σ : St} {H : Hp} {Q : VK} (Pv : Nat → List V → Hp → Prop) (h0 : Pv 0 [] H) (hl : ∀ i ys H, i ≤ xs.length → Pv i ys H → SqL K H a xs ∧ ys.length ≤ i) (hz : xs.length ≤ sizeLine)
  (hs : ∀ i x ys H, xs[i]? = some x → Pv i ys H → tt (some x :: blockSt σ js) H fun b H4 => if b = true then te (some x :: blockSt σ js) H4 fun y H5 => Pv (i + 1) (ys ++ [y]) H5 else Pv (i + 1) ys H4)
  (hd : ∀ ys H, Pv xs.length ys H → ∀ D, H D = none → Q (.ref D) (upd H D (.lst ys))) : CompW js tt te σ Q (Itl K a) H := by
 refine ⟨fun i m ys H => i ≤ xs.length ∧ m = xs.length - i ∧ Pv i ys H, ⟨_, Nat.zero_le _, rfl, h0⟩, fun i m ys H2 ⟨hi, hm, hp⟩ => ?_⟩
 obtain ⟨hq, hy⟩ := hl i ys H2 hi hp
 by_cases e : i = xs.length
 ·subst e
  exact .inl ⟨⟨xs, hq, Nat.le_refl _⟩, hd ys H2 hp⟩
 ·have hlt : i < xs.length := Nat.lt_of_le_of_ne hi e
  refine .inr ⟨⟨xs, _, hq, gE hlt⟩, by omega, Pv (i + 1), fun ys' H' hp' => ⟨xs.length - (i + 1), by omega, by omega, rfl, hp'⟩, fun x H3 hy3 => ?_⟩
  obtain ⟨e3, hx⟩ := hy3
  subst e3
  exact hs i x ys H3 (hx xs hq) hp
theorem comp_range {lo : Int} {n : Nat} {js : List Nat} {tt : TT} {te : TE} {σ : St} {H : Hp} {Q : VK} (Pv : Nat → List V → Hp → Prop) (h0 : Pv 0 [] H) (hl : ∀ i ys H, i ≤ n → Pv i ys H → ys.length ≤ i) (hz : n ≤ sizeLine)
  (hs : ∀ (i : Nat) ys H, i < n → Pv i ys H → tt (some (.int (lo + i)) :: blockSt σ js) H fun b H4 => if b = true then te (some (.int (lo + i)) :: blockSt σ js) H4 fun y H5 => Pv (i + 1) (ys ++ [y]) H5 else Pv (i + 1) ys H4)
  (hd : ∀ ys H, Pv n ys H → ∀ D, H D = none → Q (.ref D) (upd H D (.lst ys))) : CompW js tt te σ Q (Itr lo n) H := by
 refine ⟨fun i m ys H => i ≤ n ∧ m = n - i ∧ Pv i ys H, ⟨_, Nat.zero_le _, rfl, h0⟩, fun i m ys H2 ⟨hi, hm, hp⟩ => ?_⟩
 have hy := hl i ys H2 hi hp
 by_cases e : i = n
 ·subst e
  exact .inl ⟨Nat.le_refl _, hd ys H2 hp⟩
 ·have hlt : i < n := Nat.lt_of_le_of_ne hi e
  refine .inr ⟨hlt, by omega, Pv (i + 1), fun ys' H' hp' => ⟨n - (i + 1), by omega, by omega, rfl, hp'⟩, fun x H3 hy3 => ?_⟩
  obtain ⟨e3, hx⟩ := hy3
  subst e3 hx
  exact hs i ys H3 hlt hp
end L2
namespace L2
open PySem PySem.Spec PyProof.Rows
section
variable {prog : Program} {w : World} {A : Around} {E : Value → Shared → Prop} {s : Shared}
end
section
open AutoSeq1 (wpAny_loadPart')
end
section
variable {X : Cx}
end
end L2
namespace L2
open PySem PySem.Spec PyProof.Rows
theorem ps_setCC {X : Cx} {CW : St → VK → It → Hp → Prop} {iy : Nat} {y0 : Str} {py spos : Pos} {elt iter tg : Expr} {xs : List Str} {g : TG} {pos : Pos} {ifs : List Expr} {scope : Scope} {wi : TI} {te : TE} {tt : TT} {fr : List Str} {js : List Nat}
  (hN0 : X.N.Nodup) (hi0 : X.N[iy]? = some y0) (hx0 : Loc X.env.scope y0) (hc : X.calm = true) (hi : PI X tg iter wi)
  (hcell : ∀ y ∈ scope.names, y.2 ≠ .cell) (hkind : scope.kind = .function) (hnames : ∀ y ∈ scope.names, y.2 = .local → scope.names.lookup y.1 = some .local)
  (hfr : ∀ y ∈ scope.names, y.2 = .free → X.env.scope.names.lookup y.1 = some .cell) (hjs : js.map (fun j => X.N[j]?) = fr.map some) (hfv : ∀ y ∈ fr, scope.names.lookup y = some .free)
  (hg : ∀ cl C s' H' ex, PG (cxComp X scope cl C (xs ++ fr) s' H' ex) tg g)
  (hb : ∀ cl C s' H' ex, PE (cxComp X scope cl C (xs ++ fr) s' H' ex) elt te ∧ PTs (cxComp X scope cl C (xs ++ fr) s' H' ex) ifs tt)
  (hCW : ∀ σ Q J H1, CW σ Q J H1 → CompWT xs.length g js tt te σ Q J H1) (hs : ∀ z, foldedSetIterable iter X.env z = pure z := by intro _; rfl) (hsw : swapsWith (.ListComp elt [⟨tg, iter, ifs, 0⟩] scope pos) (some (.Name y0 py)) spos.line X.env = pure true := by rfl)
  (hf0 : X.fn y0 = true ∨ X.env.scope.names.lookup y0 = some .local := by first | exact .inl rfl | exact .inr rfl | assumption) :
  PS X (.Assign [.Name y0 py] (.ListComp elt [⟨tg, iter, ifs, 0⟩] scope pos) spos) (tAsg (fun σ H Q => wi σ H fun J H1 => CW σ Q J H1) (gName iy)) := by
 intro pins s σ H Dn I h
 rw [exec_Assign_Name_used _ _ _ _ hsw]
 refine wpAny_bind (wpAny_standAt (wpAny_bind ?_))
 show wpAny _ X.A (do let _ ← comprehension (.ListComp elt [⟨tg, iter, ifs, 0⟩] scope pos) scope X.env _ (newList []) false (eval iter X.env) (some (assign (.Name y0 py) X.env))) _ _ s
 refine wpAny_bind (wpAny_mono (comp_core (use := some (assign (.Name y0 py) X.env)) (R := fun _ s' => SP X pins Dn .next s') hc hi hcell hkind hnames hfr hjs hfv hg hb hCW I h (fun s4 H5 D C mC hnC I5 nC locC fsC pinX cC sC q => ?_) hs) (fun _ s' hq => wpAny_pure (wpAny_pure hq)) fun _ _ e => e)
 obtain ⟨oC, esC, epC, hoC, rC⟩ := id hnC
 have I6 : Inv X ((C, oC) :: pins) σ H5 s4 := I5.pins_of fun p hp => by
  rcases List.mem_cons.mp hp with rfl | hp
  ·refine ⟨hoC, nC, locC, fsC, fun v z => ?_⟩
   rw [rC.1] at z
   cases z
  ·exact I5.pin p (List.mem_append_right _ hp)
 have hPG0 : PG X (.Name y0 py) (gName iy) := pg_name hN0 hi0 hx0 hf0
 refine thn (hPG0 _ s4 σ _ (.ref D) (.ref D) (fun σ' H' => Dn.nx σ' H' ∧ H' C = none) I6 rfl ⟨q, nC⟩) fun _ s6 ⟨σ6, H6, I7, q7, n7⟩ => ?_
 have o7 := (I7.pin (C, oC) (List.mem_append_right _ (List.mem_cons_self ..))).1
 refine ⟨mC, ⟨oC, esC, epC, o7, rC⟩, fun h' hsb => ⟨σ6, H6, ?_, q7⟩⟩
 have I8 : Inv X pins σ6 H6 s6 := I7.pins_of fun p hp => I7.pin p (List.mem_append_right _ (List.mem_cons_of_mem _ hp))
 exact I8.turned (t' := s6.toks) (it := C) (fun b o hb' e => hsb.extBut b o hb' e) n7 locC (.inr sC) cC pinX
theorem ps_setC {X : Cx} {iy : Nat} {y0 : Str} {py spos : Pos} {elt iter : Expr} {x : Str} {px pos : Pos} {ifs : List Expr} {scope : Scope} {wi : TI} {te : TE} {tt : TT} {fr : List Str} {js : List Nat}
  (hN0 : X.N.Nodup) (hi0 : X.N[iy]? = some y0) (hx0 : Loc X.env.scope y0) (hc : X.calm = true) (hi : PI X (.Name x px) iter wi)
  (hcell : ∀ y ∈ scope.names, y.2 ≠ .cell) (hkind : scope.kind = .function) (hnames : ∀ y ∈ scope.names, y.2 = .local → scope.names.lookup y.1 = some .local) (hx : scope.names.lookup x = some .local)
  (hfr : ∀ y ∈ scope.names, y.2 = .free → X.env.scope.names.lookup y.1 = some .cell) (hnd : (x :: fr).Nodup) (hjs : js.map (fun j => X.N[j]?) = fr.map some) (hfv : ∀ y ∈ fr, scope.names.lookup y = some .free)
  (hb : ∀ cl C s' H' ex, PE (cxComp X scope cl C (x :: fr) s' H' ex) elt te ∧ PTs (cxComp X scope cl C (x :: fr) s' H' ex) ifs tt)
  (hs : ∀ z, foldedSetIterable iter X.env z = pure z := by intro _; rfl) (hsw : swapsWith (.ListComp elt [⟨.Name x px, iter, ifs, 0⟩] scope pos) (some (.Name y0 py)) spos.line X.env = pure true := by rfl)
  (hf0 : X.fn y0 = true ∨ X.env.scope.names.lookup y0 = some .local := by first | exact .inl rfl | exact .inr rfl | assumption) :
  PS X (.Assign [.Name y0 py] (.ListComp elt [⟨.Name x px, iter, ifs, 0⟩] scope pos) spos) (tAsg (tComp wi js tt te) (gName iy)) :=
 ps_setCC (xs := [x]) (g := gName 0) hN0 hi0 hx0 hc hi hcell hkind hnames hfr hjs hfv (fun _ _ _ _ _ => pg_name hnd rfl (.inl (lookup_relabel_local hx)) (.inr (lookup_relabel_local hx))) hb (fun _ _ _ _ h => compW_T h) hs hsw hf0
def notStar : Expr → Bool
 | .Starred _ _ => false
 | _ => true
theorem starEach_not {e : Expr} {es : List Expr} {env : Env} (h : notStar e = true) : starEach (e :: es) env = (false, eval e env) :: starEach es env := by
 cases e <;> first | rfl | cases h
theorem pa_k {X : Cx} {e : Expr} {es : List Expr} {te : TE} {t : TA} (ha : PE X e te) (hr : PA X es t) (h : notStar e = true := by rfl) : PA X (e :: es) (tCons te t) := pa_cons ha hr (starEach_not h)
end L2
namespace L2
open PySem PySem.Spec PyProof.Rows
structure PEs (X : Cx) (e : Expr) (t : TE) : Prop where
 h : PE X e t
structure PAs (X : Cx) (es : List Expr) (t : TA) : Prop where
 h : PA X es t
structure PSt (X : Cx) (st : Stmt) (t : TS) : Prop where
 h : PS X st t
structure PIs (X : Cx) (tg it : Expr) (t : TI) : Prop where
 h : PI X tg it t
theorem ps_cutK {X : Cx} {st : Stmt} {t : TS} (h : PS X st t) : PS X st (fun D σ H => ∃ N : St → Hp → Prop, (∀ σ' H', N σ' H' → D.nx σ' H') ∧ t { D with nx := N } σ H) := by
 intro pins s σ H D I ⟨N, hN, ht⟩
 refine thn (h pins s σ H { D with nx := N } I ht) fun f s' q => ?_
 cases f with
 | next => obtain ⟨σ', H', I', n'⟩ := q; exact ⟨σ', H', I', hN _ _ n'⟩
 | brk => exact q
 | cont => exact q
 | ret u => exact q
theorem PSt.cut {X : Cx} {st : Stmt} {t : TS} (h : PSt X st t) : PSt X st (fun D σ H => ∃ N : St → Hp → Prop, (∀ σ' H', N σ' H' → D.nx σ' H') ∧ t { D with nx := N } σ H) := ⟨ps_cutK h.h⟩
structure PSl (X : Cx) (sts : List Stmt) (t : TS) : Prop where
 h : PSs X sts t
section
variable {X : Cx} {a b e : Expr} {es : List Expr} {ta tb te : TE} {t : TA} {pos : Pos}
theorem k_int {i j} : PEs X (.Constant (.int i) j pos) (tC (.int i)) := ⟨pe_int⟩
theorem k_op {op : Operator} {r : R2} (ho : OpR X (binaryOp op) r) (ha : PEs X a ta) (hb : PEs X b tb) : PEs X (.BinOp a op b pos) (tOp r ta tb) := ⟨pe_op ho ha.h hb.h⟩
theorem k_ix {r : R2} (hr : IxR X r) (ha : PEs X a ta) (hb : PEs X b tb) (hs : PlainIx b) : PEs X (.Subscript a b pos) (tOp r ta tb) := ⟨pe_ix hr ha.h hb.h hs⟩
theorem k_lst (h : PAs X es t) : PEs X (.List es pos) (tLstA t) := ⟨pe_lstA h.h⟩
theorem a_nil : PAs X [] tNil := ⟨pa_nil⟩
theorem a_cons (ha : PEs X e te) (hr : PAs X es t) (h : notStar e = true := by rfl) : PAs X (e :: es) (tCons te t) := ⟨pa_k ha.h hr.h h⟩
theorem l_cons {st : Stmt} {sts : List Stmt} {t u : TS} (a : PSt X st t) (b : PSl X sts u) : PSl X (st :: sts) (tSeq t u) := ⟨pss_cons a.h b.h⟩
theorem l_one {st : Stmt} {t : TS} (a : PSt X st t) : PSl X [st] t := ⟨pss_one a.h⟩
end
end L2
namespace L2
open PySem PySem.Spec PyProof.Rows
section
variable {X : Cx}
def CBig (i j : Int) : Prop := i.natAbs < 10 ^ 400 ∧ j.natAbs < 10 ^ 400
theorem bits_of {x : Int} (h : x.natAbs < 10 ^ 400) : Builtin.Int.intBits x ≤ 2 ^ 20 := by
 unfold Builtin.Int.intBits
 split
 ·exact Nat.zero_le _
 ·rename_i hx
  have h0 : x.natAbs ≠ 0 := fun z => hx (by have : x = 0 := by omega
                                            rw [this]; rfl)
  have h1 : x.natAbs < 2 ^ 4000 := Nat.lt_trans h (by decide +kernel)
  have h2 := (Nat.log2_lt h0).mpr h1
  have h3 : (4000 : Nat) + 1 ≤ 2 ^ 20 := by decide
  omega
theorem op_mulB : OpR X (binaryOp .Mult) (rI CBig fun i j => .int (i * j)) := opI fun _ _ _ _ _ _ _ hc q => mul_int q (IntMulOk.of_bits (bits_of hc.1) (bits_of hc.2))
theorem ints_are : ∀ {ns : List Int} {us : List Value}, Vals (ns.map V.int) us → IntsAre us ns
 | [], _, .nil => .nil
 | _ :: _, _, .cons ⟨_, e⟩ r => by cases e; exact .cons _ _ (ints_are r)
end
end L2
namespace L2
open PySem PySem.Spec PyProof.Rows
theorem pe_compT {X : Cx} {elt iter tg : Expr} {xs : List Str} {g : TG} {pos : Pos} {ifs : List Expr} {scope : Scope} {wi : TI} {te : TE} {tt : TT} {fr : List Str} {js : List Nat}
  (hc : X.calm = true) (hi : PI X tg iter wi)
  (hcell : ∀ y ∈ scope.names, y.2 ≠ .cell) (hkind : scope.kind = .function) (hnames : ∀ y ∈ scope.names, y.2 = .local → scope.names.lookup y.1 = some .local)
  (hfr : ∀ y ∈ scope.names, y.2 = .free → X.env.scope.names.lookup y.1 = some .cell) (hjs : js.map (fun j => X.N[j]?) = fr.map some) (hfv : ∀ y ∈ fr, scope.names.lookup y = some .free)
  (hg : ∀ cl C s' H' ex, PG (cxComp X scope cl C (xs ++ fr) s' H' ex) tg g)
  (hb : ∀ cl C s' H' ex, PE (cxComp X scope cl C (xs ++ fr) s' H' ex) elt te ∧ PTs (cxComp X scope cl C (xs ++ fr) s' H' ex) ifs tt)
  (hs : ∀ z, foldedSetIterable iter X.env z = pure z := by intro _; rfl) :
  PE X (.ListComp elt [⟨tg, iter, ifs, 0⟩] scope pos) (tCompT wi xs.length g js tt te) :=
 pe_compC hc hi hcell hkind hnames hfr hjs hfv hg hb (fun _ _ _ _ h => h) hs
abbrev gPair (K : PySem.W.Frag) : TG := gTup K 2 (gCons (gName 0) (gCons (gName 1) gNil))
theorem pg_two {X : Cx} {scope : Scope} {cl : List (Str × Addr)} {C : Addr} {s : Shared} {H : Hp} {ex : List Addr} {x y : Str} {fr : List Str} {k : Nat} {p1 p2 pt : Pos} (hc : X.calm = true) (hnd : (x :: y :: fr).Nodup) (hx : scope.names.lookup x = some .local) (hy : scope.names.lookup y = some .local) :
  PG (cxComp X scope cl C ([x, y] ++ fr) s H ex) (.Tuple [.Name x p1, .Name y p2] k pt) (gPair X.K) :=
 pg_tup hc (pgs_cons (pg_name (i := 0) hnd rfl (.inl (lookup_relabel_local hx)) (.inr (lookup_relabel_local hx))) (pgs_cons (pg_name (i := 1) hnd rfl (.inl (lookup_relabel_local hy)) (.inr (lookup_relabel_local hy))) pgs_nil))
end L2
namespace L2
open PySem PySem.Spec PyProof.Rows
theorem istup_push {h : Heap} {b : Addr} {ys : Array Value} (k : h.IsTuple b ys) (o : Obj) : (h.push o).IsTuple b ys := by
 obtain ⟨ob, e, r⟩ := k
 exact ⟨ob, Heap.get?_push_of_some _ e, r⟩
theorem istup_at {h : Heap} {b : Addr} {ys : Array Value} (k : IsTup h b ys) : h.IsTuple b ys := k
section
variable {prog : Program} {w : World} {A : Around} {E : Value → Shared → Prop} {s : Shared}
theorem zipTT_item {z TI TO i1 i2 a b : Addr} {k1 k2 : Nat} {xs ys : Array Value} {x y c d : Value} {Q : Option Value → Shared → Prop} (D : ZAp z TI TO i1 i2 a b)
  (hz : IsZip s.heap z TI TO .none) (ti : IsPair s.heap TI (.ref i1) (.ref i2)) (to : IsPair s.heap TO c d)
  (j1 : s.heap.IsTupleIter i1 a k1) (j2 : s.heap.IsTupleIter i2 b k2) (la : s.heap.IsTuple a xs) (lb : s.heap.IsTuple b ys) (hx : xs[k1]? = some x) (hy : ys[k2]? = some y)
  (q : ∀ g, IsZip g z TI TO (rawInt s.heap.objs.size) → IsPair g TO x y → g.IsTupleIter i1 a (k1 + 1) → g.IsTupleIter i2 b (k2 + 1) → IsPair g s.heap.objs.size x y → g.objs.size = s.heap.objs.size + 1 →
   (∀ e o, e ≠ z → e ≠ TO → e ≠ i1 → e ≠ i2 → s.heap.get? e = some o → g.get? e = some o) → Q (some (.ref s.heap.objs.size)) { s with heap := g }) : wpAny (model prog w) A (pyNext (.ref z)) Q E s := by
 have hT : s.TypeIs (.ref z) "zip" := ⟨_, hz, rfl⟩
 unfold pyNext
 refine wpAny_bind (wpAny_attempt (wpAny_callSpecial?_slot (name := Str.ofString "__next__") hT F.slot_zip_next (wpAny_call_entry F.slot_zip_next hT F.entry_zip_next ?_ (F.args_zip_next_1 _))))
 show wpAny _ _ (field (.ref z) 2 >>= _) _ _ s
 refine wpAny_bind (wpAny_field hz rfl (x := .bool false) (by rfl) ?_)
 show wpAny _ _ (field (.ref z) 3 >>= _) _ _ s
 refine wpAny_bind (wpAny_field hz rfl (x := .ref TI) (by rfl) ?_)
 refine wpAny_bind (wpAny_seqItems ti rfl ?_)
 show wpAny _ _ (Builtin.SmallTypes.ownedTupleIsFree (.ref z) >>= _) _ _ s
 refine wpAny_bind ?_
 unfold Builtin.SmallTypes.ownedTupleIsFree
 refine wpAny_bind (wpAny_field hz rfl (x := .none) (by rfl) (wpAny_pure ?_))
 simp only [if_true]
 refine wpAny_bind (wpAny_rule ?_)
 refine wpAny_bind (wpAny_field hz rfl (x := .ref TO) (by rfl) ?_)
 refine wpAny_bind (wpAny_setField_rec hz (by simp) fun g1 z1 s1 => ?_)
 have z1 : IsZip g1 z TI TO .ellipsis := z1
 refine wpAny_bind ?_
 simp only [List.zipIdx_cons, List.zipIdx_nil, List.forIn_cons, List.forIn_nil]
 refine wpAny_bind (wpAny_bind (wpAny_onRaise ?_))
 show wpAny _ _ (Builtin.SmallTypes.nextOf (.ref i1) >>= _) _ _ _
 refine wpAny_bind (nextT_item (j1.extBut s1.extBut D.p3) (la.extBut s1.extBut D.a1) hx fun g2 n2 s2 => wpAny_pure ?_)
 have o2 : IsPair g2 TO c d := s2.extBut _ _ D.p8 (s1.extBut _ _ D.p2 to)
 refine wpAny_bind (wpAny_seqItems o2 rfl ?_)
 refine wpAny_bind (wpAny_updateSeq_pair o2 fun g3 o3 s3 => ?_)
 have o3 : IsPair g3 TO x d := o3
 refine wpAny_bind (wpAny_letGo (wpAny_pure ?_))
 refine wpAny_bind (wpAny_bind (wpAny_onRaise ?_))
 show wpAny _ _ (Builtin.SmallTypes.nextOf (.ref i2) >>= _) _ _ _
 refine wpAny_bind (nextT_item (((j2.extBut s1.extBut D.p4).extBut s2.extBut D.p10.symm).extBut s3.extBut D.p9.symm)
  (((lb.extBut s1.extBut D.b1).extBut s2.extBut D.b3).extBut s3.extBut D.b2) hy fun g4 n4 s4 => wpAny_pure ?_)
 have o4 : IsPair g4 TO x d := s4.extBut _ _ D.p9 o3
 refine wpAny_bind (wpAny_seqItems o4 rfl ?_)
 refine wpAny_bind (wpAny_updateSeq_pair o4 fun g5 o5 s5 => ?_)
 have o5 : IsPair g5 TO x y := o5
 refine wpAny_bind (wpAny_letGo (wpAny_pure (wpAny_pure ?_)))
 refine wpAny_bind (wpAny_seqItems o5 rfl ?_)
 refine wpAny_bind (wpAny_newTuple ?_)
 have sz : g5.objs.size = s.heap.objs.size := by rw [s5.1, s4.1, s3.1, s2.1, s1.1]
 have z5 : IsZip g5 z TI TO .ellipsis := s5.extBut _ _ D.p2.symm (s4.extBut _ _ D.p4.symm (s3.extBut _ _ D.p2.symm (s2.extBut _ _ D.p3.symm z1)))
 have k5 : ∀ e o, e ≠ z → e ≠ TO → e ≠ i1 → e ≠ i2 → s.heap.get? e = some o → g5.get? e = some o := fun e o c1 c2 c3 c4 h =>
  s5.extBut _ _ c2 (s4.extBut _ _ c4 (s3.extBut _ _ c2 (s2.extBut _ _ c3 (s1.extBut _ _ c1 h))))
 have m1 : g5.IsTupleIter i1 a (k1 + 1) := ((n2.extBut s3.extBut D.p8.symm).extBut s4.extBut D.p10).extBut s5.extBut D.p8.symm
 have m2 : g5.IsTupleIter i2 b (k2 + 1) := n4.extBut s5.extBut D.p9.symm
 have zlt : z < g5.objs.size := Heap.lt_size z5
 show wpAny _ _ (Builtin.SmallTypes.ownedTupleHandOut (.ref z) (.ref g5.objs.size) >>= _) _ _ _
 refine wpAny_bind ?_
 unfold Builtin.SmallTypes.ownedTupleHandOut
 have z6 : IsZip (g5.push { cls := .type "tuple", data := .seq #[x, y] }) z TI TO .ellipsis := Heap.get?_push_of_some _ z5
 refine wpAny_bind (wpAny_setField_rec z6 (by simp) fun g7 z7 s7 => ?_)
 have z7 : IsZip g7 z TI TO (rawInt g5.objs.size) := z7
 refine wpAny_setField_rec z7 (by simp) fun g8 z8 s8 => ?_
 have z8 : IsZip g8 z TI TO (rawInt g5.objs.size) := z8
 have up : ∀ e o, e ≠ z → g5.get? e = some o → g8.get? e = some o := fun e o c1 h => s8.extBut _ _ c1 (s7.extBut _ _ c1 (Heap.get?_push_of_some _ h))
 have t8 : IsPair g8 g5.objs.size x y := s8.extBut _ _ (Nat.ne_of_gt zlt) (s7.extBut _ _ (Nat.ne_of_gt zlt) (Heap.get?_push_size _ rfl))
 have sz8 : g8.objs.size = g5.objs.size + 1 := by rw [s8.1, s7.1, Heap.size_push]
 rw [sz] at z8 t8 sz8
 refine wpAny_pure ⟨_, rfl, ?_⟩
 refine wpAny_pure ?_
 show Q (some (.ref g5.objs.size)) _
 rw [sz]
 exact q g8 z8 (up _ _ D.p2 o5) (by obtain ⟨o, e, r⟩ := m1; exact ⟨o, up _ o D.p3 e, r⟩) (by obtain ⟨o, e, r⟩ := m2; exact ⟨o, up _ o D.p4 e, r⟩) t8 sz8 fun e o c1 c2 c3 c4 h => up e o c1 (k5 e o c1 c2 c3 c4 h)
theorem zipTT_end {z TI TO i1 i2 a b : Addr} {k1 k2 : Nat} {xs ys : Array Value} {c d : Value} {Q : Option Value → Shared → Prop} (hh : A.handled = none) (D : ZAp z TI TO i1 i2 a b)
  (hz : IsZip s.heap z TI TO .none) (ti : IsPair s.heap TI (.ref i1) (.ref i2)) (to : IsPair s.heap TO c d)
  (j1 : s.heap.IsTupleIter i1 a k1) (j2 : s.heap.IsTupleIter i2 b k2) (la : s.heap.IsTuple a xs) (lb : s.heap.IsTuple b ys) (hx : xs[k1]? = none)
  (q : ∀ g, (∀ e o, e ≠ z → e ≠ TO → e ≠ i1 → e ≠ i2 → s.heap.get? e = some o → g.get? e = some o) → Q none { s with heap := g }) : wpAny (model prog w) A (pyNext (.ref z)) Q E s := by
 have hT : s.TypeIs (.ref z) "zip" := ⟨_, hz, rfl⟩
 have fin : ∀ g x, (∀ e o, e ≠ z → e ≠ TO → e ≠ i1 → e ≠ i2 → s.heap.get? e = some o → g.get? e = some o) → (∃ o, g.get? x = some o ∧ o.cls = .type "StopIteration") →
   wpAny (model prog w) A (do if ← isInstance (.ref x) (.type "StopIteration") then pure none else throw (.ref x)) Q E { s with heap := g } := fun g x k ⟨o, ho, hc⟩ => by
  refine wpAny_bind (wpAny_isInstance (T := "StopIteration") (b := true) ⟨o, ho, hc⟩ isSubtype_stop ?_)
  exact wpAny_pure (q g k)
 unfold pyNext
 refine wpAny_bind (wpAny_attempt (wpAny_callSpecial?_slot (name := Str.ofString "__next__") hT F.slot_zip_next (wpAny_call_entry F.slot_zip_next hT F.entry_zip_next ?_ (F.args_zip_next_1 _))))
 show wpAny _ _ (field (.ref z) 2 >>= _) _ _ s
 refine wpAny_bind (wpAny_field hz rfl (x := .bool false) (by rfl) ?_)
 show wpAny _ _ (field (.ref z) 3 >>= _) _ _ s
 refine wpAny_bind (wpAny_field hz rfl (x := .ref TI) (by rfl) ?_)
 refine wpAny_bind (wpAny_seqItems ti rfl ?_)
 show wpAny _ _ (Builtin.SmallTypes.ownedTupleIsFree (.ref z) >>= _) _ _ s
 refine wpAny_bind ?_
 unfold Builtin.SmallTypes.ownedTupleIsFree
 refine wpAny_bind (wpAny_field hz rfl (x := .none) (by rfl) (wpAny_pure ?_))
 simp only [if_true]
 refine wpAny_bind (wpAny_rule ?_)
 refine wpAny_bind (wpAny_field hz rfl (x := .ref TO) (by rfl) ?_)
 refine wpAny_bind (wpAny_setField_rec hz (by simp) fun g1 z1 s1 => ?_)
 have z1 : IsZip g1 z TI TO .ellipsis := z1
 refine wpAny_bind ?_
 simp only [List.zipIdx_cons, List.zipIdx_nil, List.forIn_cons, List.forIn_nil]
 refine wpAny_bind (wpAny_bind (wpAny_onRaise ?_))
 show wpAny _ _ (Builtin.SmallTypes.nextOf (.ref i1) >>= _) _ _ _
 refine wpAny_bind (nextT_end hh (j1.extBut s1.extBut D.p3) (la.extBut s1.extBut D.a1) hx fun g2 x s2 hx2 => ?_)
 obtain ⟨oe, e1, e2⟩ := hx2
 have z2 : IsZip g2 z TI TO .ellipsis := s2 _ _ D.p3.symm z1
 have xz : x ≠ z := fun r => by subst r; rw [z2] at e1; cases e1; simp at e2
 exact wpAny_setField_rec z2 (by simp) fun g3 _ s3 => fin g3 x (fun e o c1 _ c3 _ h => s3.extBut _ _ c1 (s2 _ _ c3 (s1.extBut _ _ c1 h))) ⟨oe, s3.extBut _ _ xz e1, e2⟩
theorem zipTT_end2 {z TI TO i1 i2 a b : Addr} {k1 k2 : Nat} {xs ys : Array Value} {x0 c d : Value} {Q : Option Value → Shared → Prop} (hh : A.handled = none) (D : ZAp z TI TO i1 i2 a b)
  (hz : IsZip s.heap z TI TO .none) (ti : IsPair s.heap TI (.ref i1) (.ref i2)) (to : IsPair s.heap TO c d)
  (j1 : s.heap.IsTupleIter i1 a k1) (j2 : s.heap.IsTupleIter i2 b k2) (la : s.heap.IsTuple a xs) (lb : s.heap.IsTuple b ys) (hx : xs[k1]? = some x0) (hy : ys[k2]? = none)
  (q : ∀ g, (∀ e o, e ≠ z → e ≠ TO → e ≠ i1 → e ≠ i2 → s.heap.get? e = some o → g.get? e = some o) → Q none { s with heap := g }) : wpAny (model prog w) A (pyNext (.ref z)) Q E s := by
 have hT : s.TypeIs (.ref z) "zip" := ⟨_, hz, rfl⟩
 have fin : ∀ g x, (∀ e o, e ≠ z → e ≠ TO → e ≠ i1 → e ≠ i2 → s.heap.get? e = some o → g.get? e = some o) → (∃ o, g.get? x = some o ∧ o.cls = .type "StopIteration") →
   wpAny (model prog w) A (do if ← isInstance (.ref x) (.type "StopIteration") then pure none else throw (.ref x)) Q E { s with heap := g } := fun g x k ⟨o, ho, hc⟩ => by
  refine wpAny_bind (wpAny_isInstance (T := "StopIteration") (b := true) ⟨o, ho, hc⟩ isSubtype_stop ?_)
  exact wpAny_pure (q g k)
 unfold pyNext
 refine wpAny_bind (wpAny_attempt (wpAny_callSpecial?_slot (name := Str.ofString "__next__") hT F.slot_zip_next (wpAny_call_entry F.slot_zip_next hT F.entry_zip_next ?_ (F.args_zip_next_1 _))))
 show wpAny _ _ (field (.ref z) 2 >>= _) _ _ s
 refine wpAny_bind (wpAny_field hz rfl (x := .bool false) (by rfl) ?_)
 show wpAny _ _ (field (.ref z) 3 >>= _) _ _ s
 refine wpAny_bind (wpAny_field hz rfl (x := .ref TI) (by rfl) ?_)
 refine wpAny_bind (wpAny_seqItems ti rfl ?_)
 show wpAny _ _ (Builtin.SmallTypes.ownedTupleIsFree (.ref z) >>= _) _ _ s
 refine wpAny_bind ?_
 unfold Builtin.SmallTypes.ownedTupleIsFree
 refine wpAny_bind (wpAny_field hz rfl (x := .none) (by rfl) (wpAny_pure ?_))
 simp only [if_true]
 refine wpAny_bind (wpAny_rule ?_)
 refine wpAny_bind (wpAny_field hz rfl (x := .ref TO) (by rfl) ?_)
 refine wpAny_bind (wpAny_setField_rec hz (by simp) fun g1 z1 s1 => ?_)
 have z1 : IsZip g1 z TI TO .ellipsis := z1
 refine wpAny_bind ?_
 simp only [List.zipIdx_cons, List.zipIdx_nil, List.forIn_cons, List.forIn_nil]
 refine wpAny_bind (wpAny_bind (wpAny_onRaise ?_))
 show wpAny _ _ (Builtin.SmallTypes.nextOf (.ref i1) >>= _) _ _ _
 refine wpAny_bind (nextT_item (j1.extBut s1.extBut D.p3) (la.extBut s1.extBut D.a1) hx fun g2 n2 s2 => wpAny_pure ?_)
 have o2 : IsPair g2 TO c d := s2.extBut _ _ D.p8 (s1.extBut _ _ D.p2 to)
 refine wpAny_bind (wpAny_seqItems o2 rfl ?_)
 refine wpAny_bind (wpAny_updateSeq_pair o2 fun g3 o3 s3 => ?_)
 refine wpAny_bind (wpAny_letGo (wpAny_pure ?_))
 refine wpAny_bind (wpAny_bind (wpAny_onRaise ?_))
 show wpAny _ _ (Builtin.SmallTypes.nextOf (.ref i2) >>= _) _ _ _
 refine wpAny_bind (nextT_end hh (((j2.extBut s1.extBut D.p4).extBut s2.extBut D.p10.symm).extBut s3.extBut D.p9.symm)
  (((lb.extBut s1.extBut D.b1).extBut s2.extBut D.b3).extBut s3.extBut D.b2) hy fun g4 x s4 hx4 => ?_)
 obtain ⟨oe, e1, e2⟩ := hx4
 have z4 : IsZip g4 z TI TO .ellipsis := s4 _ _ D.p4.symm (s3.extBut _ _ D.p2.symm (s2.extBut _ _ D.p3.symm z1))
 have xz : x ≠ z := fun r => by subst r; rw [z4] at e1; cases e1; simp at e2
 exact wpAny_setField_rec z4 (by simp) fun g5 _ s5 => fin g5 x (fun e o c1 c2 c3 c4 h => s5.extBut _ _ c1 (s4 _ _ c4 (s3.extBut _ _ c2 (s2.extBut _ _ c3 (s1.extBut _ _ c1 h))))) ⟨oe, s5.extBut _ _ xz e1, e2⟩
end
abbrev yT1 (h : Heap) (a : Addr) : Heap := h.push { cls := .type "tuple_iterator", data := .fields #[.ref a, .int 0 0] }
abbrev yT2 (h : Heap) (a b : Addr) : Heap := (yT1 h a).push { cls := .type "tuple_iterator", data := .fields #[.ref b, .int 0 0] }
abbrev yT3 (h : Heap) (a b : Addr) : Heap := (yT2 h a b).push { cls := .type "tuple", data := .seq #[.ref h.objs.size, .ref (yT1 h a).objs.size] }
abbrev yT4 (h : Heap) (a b : Addr) : Heap := (yT3 h a b).push { cls := .type "tuple", data := .seq #[.none, .none] }
abbrev yT5 (h : Heap) (a b : Addr) : Heap := (yT4 h a b).push { cls := .type "zip", data := .fields #[.none, .bool false, .bool false, .ref (yT2 h a b).objs.size, .ref (yT3 h a b).objs.size] }
theorem zipTT_new (a b : Addr) (xs ys : Array Value) :
  Meets (Builtin.«zip.__new__» ⟨[.type "zip", .ref a, .ref b], []⟩) (fun _ R s => s.heap.IsTuple a xs ∧ s.heap.IsTuple b ys ∧ R (.ok (.ret (.ref (yT4 s.heap a b).objs.size))) { s with heap := yT5 s.heap a b }) :=
 .of_wp fun prog w A R s h => by
  obtain ⟨hp, g, d, tk, os⟩ := s
  obtain ⟨h1, h2, h⟩ := h
  have subZ := sub_zip
  have k1 : Heap.IsTuple (Shared.heap ⟨hp, g, d, tk, os⟩) a xs := h1
  have k2 : Heap.IsTuple (Shared.heap ⟨hp.push { cls := .type "tuple_iterator", data := .fields #[.ref a, .int 0 0] }, g, d, tk, os⟩) b ys := istup_push h2 _
  wp_walk using wpAny_pyIter_tuple k1, wpAny_pyIter_tuple k2
  exact ⟨_, rfl, h⟩
theorem call_zipTT {prog : Program} {w : World} {A : Around} {E : Value → Shared → Prop} {s : Shared} {a b : Addr} {xs ys : Array Value} {Q : Value → Shared → Prop} (h1 : s.heap.IsTuple a xs) (h2 : s.heap.IsTuple b ys)
  (q : ∀ g, IsZip g (s.heap.objs.size + 4) (s.heap.objs.size + 2) (s.heap.objs.size + 3) .none → IsPair g (s.heap.objs.size + 2) (.ref s.heap.objs.size) (.ref (s.heap.objs.size + 1)) →
   IsPair g (s.heap.objs.size + 3) .none .none → g.IsTupleIter s.heap.objs.size a 0 → g.IsTupleIter (s.heap.objs.size + 1) b 0 → g.objs.size = s.heap.objs.size + 5 →
   (∀ c o, s.heap.get? c = some o → g.get? c = some o) → Q (.ref (s.heap.objs.size + 4)) { s with heap := g }) : wpAny (model prog w) A (call (.type "zip") [.ref a, .ref b]) Q E s := by
 refine callType_new F.called_zip (by decide) (F.typeCall_zip_2 _ _) (F.newCall_zip_2 _ _) (fun obj => F.args_object_init_3 obj _ _) F.entry_zip_new (zipTT_new a b xs ys) ⟨h1, h2, ?_⟩
 have e1 : (yT1 s.heap a).objs.size = s.heap.objs.size + 1 := Heap.size_push ..
 have e2 : (yT2 s.heap a b).objs.size = s.heap.objs.size + 2 := by rw [Heap.size_push, e1]
 have e3 : (yT3 s.heap a b).objs.size = s.heap.objs.size + 3 := by rw [Heap.size_push, e2]
 have e4 : (yT4 s.heap a b).objs.size = s.heap.objs.size + 4 := by rw [Heap.size_push, e3]
 have e5 : (yT5 s.heap a b).objs.size = s.heap.objs.size + 5 := by rw [Heap.size_push, e4]
 have f5 : (yT5 s.heap a b).get? (yT4 s.heap a b).objs.size = some _ := Heap.get?_push_size _ rfl
 have f4 : (yT5 s.heap a b).get? (yT3 s.heap a b).objs.size = some _ := Heap.get?_push_of_some _ (Heap.get?_push_size _ rfl)
 have f3 : (yT5 s.heap a b).get? (yT2 s.heap a b).objs.size = some _ := Heap.get?_push_of_some _ (Heap.get?_push_of_some _ (Heap.get?_push_size _ rfl))
 have f2 : (yT5 s.heap a b).get? (yT1 s.heap a).objs.size = some _ := Heap.get?_push_of_some _ (Heap.get?_push_of_some _ (Heap.get?_push_of_some _ (Heap.get?_push_size _ rfl)))
 have f1 : (yT5 s.heap a b).get? s.heap.objs.size = some _ := Heap.get?_push_of_some _ (Heap.get?_push_of_some _ (Heap.get?_push_of_some _ (Heap.get?_push_of_some _ (Heap.get?_push_size _ rfl))))
 show _ ∧ _
 rw [e2, e3, e4] at f5
 rw [e1, e2] at f3
 rw [e3] at f4
 rw [e1] at f2
 rw [e4]
 exact ⟨⟨_, f5, rfl⟩, q _ f5 f3 f4 ⟨_, f1, rfl, rfl⟩ ⟨_, f2, rfl, rfl⟩ e5 fun c o x => Heap.get?_push_of_some _ (Heap.get?_push_of_some _ (Heap.get?_push_of_some _ (Heap.get?_push_of_some _ (Heap.get?_push_of_some _ x))))⟩
section
variable {X : Cx}
def Ity (a b : Addr) : It :=
 ⟨fun i H => ∃ xs ys x y, H a = some (.tup xs) ∧ H b = some (.tup ys) ∧ xs[i]? = some x ∧ ys[i]? = some y,
  fun i H v H' => ∃ p x y, H p = none ∧ v = .ref p ∧ H' = upd H p (.tup [x, y]) ∧ (∀ xs, H a = some (.tup xs) → xs[i]? = some x) ∧ ∀ ys, H b = some (.tup ys) → ys[i]? = some y,
  fun i H => ∃ xs ys, H a = some (.tup xs) ∧ H b = some (.tup ys) ∧ (xs.length ≤ i ∨ ∃ x, xs[i]? = some x ∧ ys.length ≤ i)⟩
theorem turn_zipT {P : Program} {w : World} {K : PySem.W.Frag} {es : List Expr} {k0} {pos : Pos} {z TI TO i1 i2 : Addr} (a b : Addr) (D : Z5 z TI TO i1 i2) :
  Turn P w K (.Tuple es k0 pos) (Ity a b) [z, TI, TO, i1, i2] z (fun i h => IsZip h z TI TO .none ∧ IsPair h TI (.ref i1) (.ref i2) ∧ (∃ c d, IsPair h TO c d) ∧ h.IsTupleIter i1 a i ∧ h.IsTupleIter i2 b i) where
 mem := by simp
 obj := fun i h st c hc => by
  obtain ⟨e1, e2, ⟨_, _, e3⟩, ⟨o4, e4, _, d4⟩, ⟨o5, e5, _, d5⟩⟩ := st
  simp only [List.mem_cons, List.not_mem_nil, or_false] at hc
  rcases hc with rfl | rfl | rfl | rfl | rfl
  ·exact ⟨_, e1, fun v z => by cases z⟩
  ·exact ⟨_, e2, fun v z => by cases z⟩
  ·exact ⟨_, e3, fun v z => by cases z⟩
  ·exact ⟨_, e4, fun v z => by rw [d4] at z; cases z⟩
  ·exact ⟨_, e5, fun v z => by rw [d5] at z; cases z⟩
 keep := fun i h h' st k => by
  obtain ⟨e1, e2, ⟨c, d, e3⟩, ⟨o4, e4, r4⟩, ⟨o5, e5, r5⟩⟩ := st
  exact ⟨k z (by simp) _ e1, k TI (by simp) _ e2, ⟨c, d, k TO (by simp) _ e3⟩, ⟨o4, k i1 (by simp) _ e4, r4⟩, ⟨o5, k i2 (by simp) _ e5, r5⟩⟩
 item := by
  intro X hP hw hK hc i pins s σ H E I hf st hg
  subst hP hw hK
  obtain ⟨xs, ys, x, y, ha, hb, hx, hy⟩ := hg
  obtain ⟨e1, e2, ⟨c, d, e3⟩, j1, j2⟩ := st
  obtain ⟨its, rv, pt, _⟩ := I.tuple (SqT.of (K := X.K) ha)
  obtain ⟨its2, rv2, eL, _⟩ := I.tuple (SqT.of (K := X.K) hb)
  obtain ⟨u, hu, ru⟩ := rv.get hx
  obtain ⟨u2, hu2, ru2⟩ := rv2.get hy
  have nz : ∀ e ∈ [z, TI, TO, i1, i2], H e = none := fun e he => (hf e he).1
  have Z : ZAp z TI TO i1 i2 a b := ⟨D.p1, D.p2, D.p3, D.p4, D.p5, D.p6, D.p7, D.p8, D.p9, D.p10, ne_of_none ha (nz z (by simp)), ne_of_none ha (nz TO (by simp)), ne_of_none ha (nz i1 (by simp)), ne_of_none ha (nz i2 (by simp)),
   ne_of_none hb (nz z (by simp)), ne_of_none hb (nz TO (by simp)), ne_of_none hb (nz i1 (by simp)), ne_of_none hb (nz i2 (by simp))⟩
  have hT : H s.heap.objs.size = none := I.fresh
  refine zipTT_item Z e1 e2 e3 j1 j2 (show s.heap.IsTuple a its.toArray from pt) (istup_at eL) (x := u) (y := u2) (by simpa using hu) (by simpa using hu2) fun g z1 to1 m1 m2 tp sz kk => ⟨_, rfl, ?_⟩
  refine wpAny_letOwnedTupleGo_zip z1 fun g2 z2 s2 => ?_
  have s2 : Heap.SameBut z g g2 := s2
  have k2 : ∀ e o, e ∉ [z, TO, i1, i2] → s.heap.get? e = some o → g2.get? e = some o := fun e o hn h => by
   simp only [List.mem_cons, List.not_mem_nil, or_false, not_or] at hn
   exact s2.extBut _ _ hn.1 (kk e o hn.1 hn.2.1 hn.2.2.1 hn.2.2.2 h)
  have zlt : z < s.heap.objs.size := Heap.lt_size e1
  have tp2 : IsPair g2 s.heap.objs.size u u2 := s2.extBut _ _ (Nat.ne_of_gt zlt) tp
  have sub : ∀ e ∈ [z, TO, i1, i2], e ∈ [z, TI, TO, i1, i2] := fun e he => by
   simp only [List.mem_cons, List.not_mem_nil, or_false] at he ⊢
   rcases he with rfl | rfl | rfl | rfl <;> simp
  have trk : ∀ e o, H e = some o → e ∉ [z, TO, i1, i2] := fun e o he hm => by rw [nz e (sub e hm)] at he; cases he
  have J : Inv X pins σ (upd H s.heap.objs.size (.tup [x, y])) { s with heap := g2 } := by
   refine I.turnAll (ch := [z, TO, i1, i2]) (fun e he => hf e (sub e he)) k2 (fun e o h => by rw [upd_ne (ne_of_none h hT)]; exact h) (fun e o h n => by rw [upd_ne (Nat.ne_of_lt (Heap.lt_size h))]; exact n) fun e o h => ?_
   by_cases q : e = s.heap.objs.size
   ·subst q
    rw [upd_same] at h
    cases h
    exact ⟨by show 2 ≤ sizeLine; decide, [u, u2], .cons ru (.cons ru2 .nil), _, tp2, rfl, rfl, _, rfl⟩
   ·rw [upd_ne q] at h
    refine (I.hok e o h).stay (fun c v hc' q' => k2 c v (by
     rcases hc' with z' | z'
     ·rw [z']; exact trk e o h
     ·exact trk c _ z') q') (fun c q' => by rw [upd_ne (ne_of_none q' hT)]; exact q') fun c xs q' => by rw [upd_ne (ne_of_none q' hT)]; exact q'
  refine ⟨.ref s.heap.objs.size, _, J, rfl, ⟨_, x, y, hT, rfl, rfl, fun xs' h' => by rw [ha] at h'; cases h'; exact hx, fun ys' h' => by rw [hb] at h'; cases h'; exact hy⟩, ⟨z2, ?_, ⟨u, u2, s2.extBut _ _ D.p2 to1⟩, ?_, ?_⟩, fun e he => ?_⟩
  ·exact k2 _ _ (by simp [D.p1, D.p5, D.p6, D.p7]) e2
  ·exact m1.extBut s2.extBut D.p3
  ·exact m2.extBut s2.extBut D.p4
  ·obtain ⟨o4, q4, _⟩ := j1
   obtain ⟨o5, q5, _⟩ := j2
   have hlt : e < s.heap.objs.size := by
    simp only [List.mem_cons, List.not_mem_nil, or_false] at he
    rcases he with rfl | rfl | rfl | rfl | rfl
    ·exact Heap.lt_size e1
    ·exact Heap.lt_size e2
    ·exact Heap.lt_size e3
    ·exact Heap.lt_size q4
    ·exact Heap.lt_size q5
   rw [upd_ne (Nat.ne_of_lt hlt)]
   exact nz e he
 done := by
  intro X hP hw hK hc i pins s σ H E I hf st hg
  subst hP hw hK
  obtain ⟨xs, ys, ha, hb, hx⟩ := hg
  obtain ⟨e1, e2, ⟨c, d, e3⟩, j1, j2⟩ := st
  obtain ⟨its, rv, pt, _⟩ := I.tuple (SqT.of (K := X.K) ha)
  obtain ⟨its2, rv2, eL, _⟩ := I.tuple (SqT.of (K := X.K) hb)
  have nz : ∀ e ∈ [z, TI, TO, i1, i2], H e = none := fun e he => (hf e he).1
  have Z : ZAp z TI TO i1 i2 a b := ⟨D.p1, D.p2, D.p3, D.p4, D.p5, D.p6, D.p7, D.p8, D.p9, D.p10, ne_of_none ha (nz z (by simp)), ne_of_none ha (nz TO (by simp)), ne_of_none ha (nz i1 (by simp)), ne_of_none ha (nz i2 (by simp)),
   ne_of_none hb (nz z (by simp)), ne_of_none hb (nz TO (by simp)), ne_of_none hb (nz i1 (by simp)), ne_of_none hb (nz i2 (by simp))⟩
  have hl := rv.length
  have hl2 := rv2.length
  suffices key : ∀ g : Heap, (∀ e o, e ≠ z → e ≠ TO → e ≠ i1 → e ≠ i2 → s.heap.get? e = some o → g.get? e = some o) → Inv X pins σ H { s with heap := g } by
   rcases hx with hx | ⟨x0, hx0, hx⟩
   ·exact zipTT_end (I.ok.hd hc) Z e1 e2 e3 j1 j2 (istup_at pt) (istup_at eL) (by simp; omega) fun g kk => ⟨rfl, key g kk⟩
   ·obtain ⟨u, hu, _⟩ := rv.get hx0
    exact zipTT_end2 (I.ok.hd hc) Z e1 e2 e3 j1 j2 (istup_at pt) (istup_at eL) (x0 := u) (by simpa using hu) (by simp; omega) fun g kk => ⟨rfl, key g kk⟩
  intro g kk
  have sub : ∀ e ∈ [z, TO, i1, i2], e ∈ [z, TI, TO, i1, i2] := fun e he => by
   simp only [List.mem_cons, List.not_mem_nil, or_false] at he ⊢
   rcases he with rfl | rfl | rfl | rfl <;> simp
  have k2 : ∀ e o, e ∉ [z, TO, i1, i2] → s.heap.get? e = some o → g.get? e = some o := fun e o hn h => by
   simp only [List.mem_cons, List.not_mem_nil, or_false, not_or] at hn
   exact kk e o hn.1 hn.2.1 hn.2.2.1 hn.2.2.2 h
  have trk : ∀ e o, H e = some o → e ∉ [z, TO, i1, i2] := fun e o he hm => by rw [nz e (sub e hm)] at he; cases he
  refine I.turnAll (ch := [z, TO, i1, i2]) (fun e he => hf e (sub e he)) k2 (fun _ _ h => h) (fun _ _ _ n => n) fun e o h => ?_
  exact (I.hok e o h).stay (fun c v hc' q' => k2 c v (by
   rcases hc' with z' | z'
   ·rw [z']; exact trk e o h
   ·exact trk c _ z') q') (fun _ q' => q') fun _ _ q' => q'
 self := fun _ _ _ _ _ st h => wpAny_pyIter_zip st.1 h
def iZipT (ta : TA) : TI := fun σ H R => ta σ H fun vs H1 => ∃ a b xs ys, vs = [.ref a, .ref b] ∧ H1 a = some (.tup xs) ∧ H1 b = some (.tup ys) ∧ R (Ity a b) H1
theorem pi_zipT {ea eb : Expr} {ta : TA} {p pos : Pos} {es : List Expr} {k0} {pt : Pos} (hg : Gl X "zip") (hm : X.mg "zip" = none) (ha : PA X [ea, eb] ta) (hs : starEach [ea, eb] X.env = [(false, eval ea X.env), (false, eval eb X.env)] := by rfl) (hs2 : starEach [eb] X.env = [(false, eval eb X.env)] := by rfl) :
  PI X (.Tuple es k0 pt) (.Call (.Name "zip" p) [ea, eb] [] pos) (iZipT ta) := by
 intro pins s σ H R I h
 refine Call_ (ld_blt I hg hm boot_zip (PyProof.Rows.callWith_type1 (thn (ha pos pins s σ H _ I h) fun us s1 ⟨vs, H1, I1, r1, q1⟩ => ?_) (by rw [hs, hs2]) (by rw [hs2]; rfl)))
 obtain ⟨a, b, xs, ys, e, hA, hB, q⟩ := q1
 subst e
 obtain ⟨u1, u2, rfl, r2, r3⟩ := vals2 r1
 cases (show u1 = Value.ref a from r2)
 cases (show u2 = Value.ref b from r3)
 obtain ⟨its, rv, pt', _⟩ := I1.tuple (SqT.of (K := X.K) hA)
 obtain ⟨its2, rv2, eL, _⟩ := I1.tuple (SqT.of (K := X.K) hB)
 refine call_zipTT (show s1.heap.IsTuple a its.toArray from pt') (istup_at eL) fun g z1 t1 t2 j1 j2 sz kk => ?_
 refine wpAny_pyIter_zip z1 ⟨s1.heap.objs.size + 4, [s1.heap.objs.size + 4, s1.heap.objs.size + 2, s1.heap.objs.size + 3, s1.heap.objs.size, s1.heap.objs.size + 1], _, Ity a b, H1, rfl, I1.kept (t' := s1.toks) kk, turn_zipT a b ?_, ⟨z1, t1, ⟨_, _, t2⟩, j1, j2⟩, fun e he => ?_, q⟩
 ·constructor <;> (show @Ne Nat _ _; omega)
 ·have hge : s1.heap.objs.size ≤ e := by
   simp only [List.mem_cons, List.not_mem_nil, or_false] at he
   rcases he with rfl | rfl | rfl | rfl | rfl <;> (show @LE.le Nat _ _ _; omega)
  exact I1.fpOk hge (I1.hok.fresh hge)
end
theorem compT_zip {K : PySem.W.Frag} {a b : Addr} {xs ys : List V} {js : List Nat} {tt : TT} {te : TE} {σ : St} {H : Hp} {Q : VK} (Pv : Nat → List V → Hp → Prop) (h0 : Pv 0 [] H) (hl : ∀ i zs H, i ≤ xs.length → Pv i zs H → H a = some (.tup xs) ∧ H b = some (.tup ys) ∧ zs.length ≤ i) (hz : xs.length ≤ sizeLine)
  (hs : ∀ i x y zs p H, xs[i]? = some x → ys[i]? = some y → Pv i zs H → H p = none → tt (some x :: some y :: blockSt σ js) (upd H p (.tup [x, y])) fun b H4 => if b = true then te (some x :: some y :: blockSt σ js) H4 fun y H5 => Pv (i + 1) (zs ++ [y]) H5 else Pv (i + 1) zs H4)
  (hd : ∀ zs H, Pv (min xs.length ys.length) zs H → ∀ D, H D = none → Q (.ref D) (upd H D (.lst zs))) : CompWT 2 (gPair K) js tt te σ Q (Ity a b) H := by
 refine ⟨fun i m zs H => i ≤ min xs.length ys.length ∧ m = xs.length - i ∧ Pv i zs H, ⟨_, Nat.zero_le _, rfl, h0⟩, fun i m zs H2 ⟨hi, hm, hp⟩ => ?_⟩
 obtain ⟨qa, qb, hy⟩ := hl i zs H2 (by omega) hp
 by_cases e : i = min xs.length ys.length
 ·refine .inl ⟨⟨xs, ys, qa, qb, ?_⟩, by rw [e] at hp; exact hd zs H2 hp⟩
  by_cases e1 : xs.length ≤ i
  ·exact .inl e1
  ·exact .inr ⟨_, gE (by omega), by omega⟩
 ·have hlt : i < xs.length := by omega
  have hlt2 : i < ys.length := by omega
  refine .inr ⟨⟨xs, ys, _, _, qa, qb, gE hlt, gE hlt2⟩, by omega, Pv (i + 1), fun ys' H' hp' => ⟨xs.length - (i + 1), by omega, by omega, rfl, hp'⟩, fun v H3 hy3 v0 hv0 => ?_⟩
  obtain ⟨p, x, y, hn, rfl, rfl, hx, hy⟩ := hy3
  match v0, hv0 with
  | [v1, v2], _ => exact ⟨p, _, rfl, SqT.of upd_same, rfl, _, _, rfl, _, _, rfl, rfl, ⟨[some x, some y], rfl, rfl⟩, hs i x y zs p H2 (hx xs qa) (hy ys qb) hp hn⟩
end L2
namespace L2
open PySem PySem.Spec PyProof.Rows
theorem fm_some {α β : Type} {f : α → Option β} {g : α → β} : ∀ (l : List α), (∀ x ∈ l, f x = some (g x)) → l.filterMap f = l.map g
 | [], _ => rfl
 | x :: l, h => by rw [List.filterMap_cons, h x (by simp), List.map_cons, fm_some l fun y hy => h y (List.mem_cons_of_mem _ hy)]
theorem pick_back (xs : Array Value) : ((List.range xs.size).filterMap fun (k : Nat) => xs[((xs.size : Int) - 1 + (k : Int) * (-1)).toNat]?) = xs.toList.reverse := by
 have e : ∀ k ∈ List.range xs.size, (fun (k : Nat) => xs[((xs.size : Int) - 1 + (k : Int) * (-1)).toNat]?) k = some ((fun k => xs.toList.getD (xs.size - 1 - k) .none) k) := fun k hk => by
  have hk := List.mem_range.mp hk
  have : ((xs.size : Int) - 1 + (k : Int) * (-1)).toNat = xs.size - 1 - k := by omega
  show xs[((xs.size : Int) - 1 + (k : Int) * (-1)).toNat]? = some (xs.toList.getD (xs.size - 1 - k) .none)
  rw [this, List.getD_eq_getElem?_getD, Array.getElem?_toList, Array.getElem?_eq_getElem (by omega)]
  rfl
 rw [fm_some _ e]
 refine List.ext_getElem (by simp) fun i h1 h2 => ?_
 have hi : i < xs.size := by simpa using h1
 rw [List.getElem_map, List.getElem_range, List.getElem_reverse, List.getD_eq_getElem?_getD, gE (by rw [Array.length_toList]; omega)]
 simp
section
variable {prog : Program} {w : World} {A : Around} {E : Value → Shared → Prop} {s : Shared}
theorem getItem_all {t sl : Addr} {items : Array Value} {vl vu : Value} {lo hi : Option Int} {Q : Value → Shared → Prop} (ht : IsTup s.heap t items) (hs : s.heap.IsSliceOf sl vl vu .none) (pl : IsPart vl lo) (pu : IsPart vu hi)
  (hw : HT.sIx items.size 0 lo = 0 ∧ HT.sIx items.size items.size hi = items.size) (h : Q (.ref t) s) : wpAny (model prog w) A (getItem (.ref t) (.ref sl)) Q E s := by
 obtain ⟨os, hos, hcs, hds⟩ := id hs
 have hTs : s.TypeIs (.ref sl) "slice" := ⟨os, hos, hcs⟩
 unfold getItem
 try with_reducible refine wpAny_holding ?_
 first | refine wpAny_bind (wpAny_pure ?_) | skip
 refine wpAny_bind (wpAny_sequenceKey ht.typeIs (by decide) ?_)
 refine wpAny_bind (wpAny_callSpecial?_slot (name := Str.ofString "__getitem__") ht.typeIs PyProof.Rows.slot_tuple_getitem
  (wpAny_call_entry PyProof.Rows.slot_tuple_getitem ht.typeIs entry_tuple_getitem ?_ (args_tuple_getitem _ _)))
 show wpAny _ _ (Builtin.Tuple.tupleItemsOf (.ref t) >>= _) _ _ s
 refine wpAny_bind (tupleItemsOf_ ht ?_)
 refine wpAny_bind (wpAny_typeOf hTs ?_)
 rw [if_pos (by decide)]
 refine wpAny_bind (HT.sliceApplied_gen hs pl pu ?_)
 show wpAny _ _ (if (((HT.sIx items.size 0 lo : Nat) : Int) == 0 && (1 : Int) == 1 && (HT.sIx items.size items.size hi - HT.sIx items.size 0 lo) == items.size) = true then _ else _) _ _ s
 rw [hw.1, hw.2, Nat.sub_zero, if_pos (by simp)]
 unfold Builtin.Tuple.tupleIsExact
 refine wpAny_bind (wpAny_bind (wpAny_typeOf ht.typeIs (wpAny_pure ?_)))
 rw [if_pos (by decide)]
 exact wpAny_bind (wpAny_rule (wpAny_pure ⟨_, rfl, wpAny_pure h⟩))
end
section
variable {X : Cx}
theorem sl_tupN : SlR X (fun x lo hi H Q => ∃ a xs, x = .ref a ∧ H a = some (.tup xs) ∧ New H (.tup (cutV xs lo hi)) Q) := by
 intro pins s σ H x v vl vu lo hi sl Q I rx hs pl pu h
 obtain ⟨a, xs, rfl, hx, q⟩ := h
 by_cases hw : HT.sIx xs.length 0 lo = 0 ∧ HT.sIx xs.length xs.length hi = xs.length
 ·cases rx
  obtain ⟨its, r, ht, hz⟩ := I.tuple (SqT.of (K := X.K) hx)
  have hlen : its.toArray.size = xs.length := by rw [List.size_toArray]; exact r.length.symm
  refine ⟨"tuple", _, PyProof.Rows.slot_tuple_getitem.lookup, ht.typeIs, ?_⟩
  refine getItem_all ht hs pl pu (by rw [hlen]; exact hw) ⟨.ref a, H, I, rfl, q a H (Same.refl H) ?_⟩
  have e : cutV xs lo hi = xs := by unfold cutV; rw [hw.1, hw.2, List.drop_zero, Nat.sub_zero, List.take_length]
  rw [e]; exact hx
 ·exact sl_tup pins s σ H _ v vl vu lo hi sl Q I rx hs pl pu ⟨a, xs, rfl, SqT.of hx, hw, q.of⟩
theorem vals_back : ∀ {xs : List V} {us : List Value}, Vals xs us → Vals xs.reverse us.reverse
 | _, _, .nil => .nil
 | _ :: _, _ :: _, .cons r t => by rw [List.reverse_cons, List.reverse_cons]; exact (vals_back t).append (.cons r .nil)
theorem call_sum (hc : X.calm = true) : CallR X (.builtin "sum") (fun xs H Q => ∃ (p : Addr) (ns : List Int), xs = [.ref p] ∧ SqL X.K H p (ns.map V.int) ∧ Q (.int ns.sum) H) := by
 intro pins s σ H xs us Q I r h
 obtain ⟨p, ns, rfl, hq, q⟩ := h
 obtain ⟨u, rfl, ru⟩ := vals1 r
 cases (show u = Value.ref p from ru)
 obtain ⟨its, rv, pl, hz⟩ := I.list hq
 have hi := ints_are rv
 obtain ⟨ys, hx⟩ := hi.allInts.items
 have hl' : s.heap.IsList p (intItems ys) := hx ▸ pl.isList
 refine sum_intListG (I.ok.hd hc) hl' fun h' tk t' hk => ?_
 have e1 : ns = ys.toList.map (·.1) := by
  rw [← nums_intItems, ← hx]
  exact (show numsOf its.toArray.toList = ns from hi.numsOf).symm
 have e2 : preSum (numAt ys) ys.size = ns.sum := by
  rw [preSum_eq, List.take_of_length_le (by simp), e1]
 rw [e2]
 exact ⟨.int ns.sum, H, I.kept (t' := tk) hk, ⟨t', rfl⟩, q⟩
end
end L2
namespace L2
open PySem PySem.Spec PyProof.Rows
section
variable {X : Cx}
theorem op_neL0 (hu : X.A.units < cLine) : OpR X (compareOp .NotEq) (fun x y H Q => ∃ a b xs, x = .ref a ∧ y = .ref b ∧ SqL X.K H a xs ∧ SqL X.K H b [] ∧ Q (.bl (!xs.isEmpty)) H) := by
 intro pins s σ H x y v u Q I rx ry h
 obtain ⟨a, b, xs, rfl, rfl, ha, hb, q⟩ := h
 cases (show v = Value.ref a from rx)
 cases (show u = Value.ref b from ry)
 obtain ⟨its, r1, p1, _⟩ := I.list ha
 obtain ⟨its2, r2, p2, _⟩ := I.list hb
 cases r2
 cases r1 with
 | nil =>
  refine SeqAt.RcNeAt.lists (A := X.A) (e := fun _ => true) p1.isList p2.isList rfl hu (fun j h1 _ => absurd h1 (by simp)) X.prog X.w _ _ (fin_bl I q (by simp))
 | cons _ _ => exact SeqAt.RcNeAt.lists_lengths (A := X.A) p1.isList p2.isList (by simp) hu X.prog X.w _ _ (fin_bl I q (by simp))
end
section
open AutoSeq1 (wpAny_loadPart')
end
section
variable {X : Cx}
end
end L2
namespace L2
open PySem PySem.Spec PyProof.Rows
def metL (ns : List Int) : List Int := firstMet (fun i => ns.getD i 0) ns.length
section
variable {X : Cx}
theorem call_setL (hc : X.calm = true) : CallR X (.type "set") (fun xs H Q => ∃ (p : Addr) (ns : List Int), xs = [.ref p] ∧ SqL X.K H p (ns.map V.int) ∧ ns.length ≤ 1000 ∧ New H (.set (fun k => (metL ns).any (· == k)) (metL ns).length) Q) := by
 intro pins s σ H xs us Q I r h
 obtain ⟨p, ns, rfl, hq, hn, q⟩ := h
 obtain ⟨u, rfl, ru⟩ := vals1 r
 cases (show u = Value.ref p from ru)
 obtain ⟨its, rv, pl, hz⟩ := I.list hq
 have hl : its.length = ns.length := by rw [← rv.length, List.length_map]
 refine call_set_list (ns := ns) (I.ok.hd hc) pl.isList (ints_are rv) (by rw [List.size_toArray, hl]; show ns.length + 1 < 4096; omega) fun h' tk hs hk => ?_
 have hl2 : its.toArray.size = ns.length := by rw [List.size_toArray, hl]
 rw [hl2] at hs
 exact ⟨.ref s.heap.objs.size, _, I.laid (t' := tk) (o := .set (fun k => (metL ns).any (· == k)) (metL ns).length) (fun b u e => hk b u (Heap.lt_size e) e) (Nat.le_refl _) hs, rfl, q.of _ I.fresh⟩
theorem call_lenS : CallR X (.builtin "len") (fun xs H Q => ∃ (a : Addr) (S : Int → Bool) (n : Nat), xs = [.ref a] ∧ H a = some (.set S n) ∧ Q (.int n) H) := by
 intro pins s σ H xs us Q I r h
 obtain ⟨a, S, n, rfl, ha, q⟩ := h
 obtain ⟨u, rfl, ru⟩ := vals1 r
 cases (show u = Value.ref a from ru)
 obtain ⟨o, es, ep, t, e1, e2, e3, _, _, e4, e5, e6⟩ := I.hok a _ ha
 have e4 : es.size < 4096 := e4
 refine call_len_set e1 e2 e3 e5 (by omega) ?_
 subst e6
 exact ⟨.int es.size, H, I.tok _, ⟨_, rfl⟩, q⟩
end
end L2
namespace L2
open PySem PySem.Spec PyProof.Rows
section
variable {X : Cx} {e : Expr} {es : List Expr} {te : TE} {t : TA} {pos : Pos}
theorem k_tup {x1} (h : PAs X es t) : PEs X (.Tuple es x1 pos) (tTupA t) := ⟨pe_tupA h.h⟩
theorem i_list {tg : Expr} (h : PEs X e te) : PIs X tg e (iList X.K te) := ⟨pi_list h.h⟩
theorem fold_list {es : List Expr} {pos : Pos} {env : Env} (x : Value) : foldedSetIterable (.List es pos) env x = pure x := rfl
theorem st_forL {tg : Expr} {body : List Stmt} {p2 : Pos} {wi : TI} {g : TG} {tb : TS} (hp : PassesOwn (model X.prog X.w) X.A X.env X.xe) (hc : X.calm = true) (hi : PIs X tg (.List es p2) wi) (hg : PG X tg g) (hb : PSs X body tb) : PSt X (.For tg (.List es p2) body [] pos) (tFor wi g tb) := ⟨ps_for hp hc hi.h hg hb fold_list⟩
end
end L2
namespace L2
open PySem PySem.Spec PyProof.Rows
theorem vals_at : ∀ {xs : List V} {us : List Value}, xs.length = us.length → (∀ (i : Nat) (x : V), xs[i]? = some x → ∃ u, us[i]? = some u ∧ RelV x u) → Vals xs us
 | [], [], _, _ => .nil
 | [], _ :: _, h, _ => by cases h
 | _ :: _, [], h, _ => by cases h
 | x :: xs, u :: us, h, k => by
  obtain ⟨u', e, r⟩ := k 0 x rfl
  cases e
  exact .cons r (vals_at (by simpa using h) fun i y hy => k (i + 1) y hy)
section
variable {X : Cx}
end
section
variable {prog : Program} {w : World} {A : Around} {E : Value → Shared → Prop} {s : Shared}
end
section
variable {X : Cx}
end
end L2
namespace L2
open PySem PySem.Spec PyProof.Rows
section
variable {X : Cx}
theorem k_lstF {es : List Expr} {t : TA} {pos : Pos} (h : PAs X es t) : PEs X (.List es pos) (tLst t) := ⟨pe_lst h.h⟩
end
end L2
namespace L2
open PySem PySem.Spec PyProof.Rows
theorem pick_backL (its : List Value) : slicePick its.toArray none none (some (-1)) = its.reverse.toArray := by
 unfold slicePick
 have e0 : sliceBounds none none (some (-1)) its.toArray.size = ((its.length : Int) - 1, -1, -1) := by
  rw [List.size_toArray]; rfl
 rw [e0]
 show ((sliceRange ((its.length : Int) - 1) (-1) (-1)).filterMap (its.toArray[·]?)).toArray = _
 unfold sliceRange
 have ec : (if (-1 : Int) > 0 then (if (its.length : Int) - 1 < -1 then (-1 - ((its.length : Int) - 1) + -1 - 1) / -1 else 0) else (if (its.length : Int) - 1 > -1 then ((its.length : Int) - 1 - -1 - -1 - 1) / (- -1) else 0)) = (its.length : Int) := by
  rw [if_neg (by decide), show -(-1 : Int) = 1 from rfl, Int.ediv_one]
  split <;> omega
 show (((List.range (if (-1 : Int) > 0 then (if (its.length : Int) - 1 < -1 then (-1 - ((its.length : Int) - 1) + -1 - 1) / -1 else 0) else (if (its.length : Int) - 1 > -1 then ((its.length : Int) - 1 - -1 - -1 - 1) / (- -1) else 0)).toNat).map fun (k : Nat) => ((its.length : Int) - 1 + -1 * (k : Int)).toNat).filterMap (its.toArray[·]?)).toArray = _
 rw [ec, Int.toNat_natCast, List.filterMap_map]
 have h := pick_back its.toArray
 rw [List.size_toArray] at h
 congr 1
 rw [← h]
 refine congrArg (fun f => List.filterMap f (List.range its.length)) (funext fun k => ?_)
 show its.toArray[((its.length : Int) - 1 + -1 * (k : Int)).toNat]? = its.toArray[((its.length : Int) - 1 + (k : Int) * (-1)).toNat]?
 rw [Int.mul_comm]
section
variable {X : Cx}
def tBackL (te : TE) : TE := fun σ H Q => te σ H fun x H1 => ∃ a xs, x = .ref a ∧ H1 a = some (.lst xs) ∧ New H1 (.lst xs.reverse) Q
theorem pe_backL {e : Expr} {te : TE} {pos p1 p2 p3 : Pos} {j} (he : PE X e te) : PE X (.Subscript e (.Slice none none (some (.UnaryOp .USub (.Constant (.int 1) j p3) p1)) p2) pos) (tBackL te) := by
 intro pins s σ H Q I h
 refine Subscript_ (thn (he pins s σ H _ I h) fun v s1 ⟨x, H1, I1, r1, q1⟩ => ?_)
 obtain ⟨a, xs, rfl, hx, q⟩ := q1
 refine wpAny_Slice ?_
 rw [evalPart_none, evalPart_some]
 refine wpAny_pure (wpAny_pure ?_)
 refine thn ((pe_un un_neg pe_int : PE X (.UnaryOp .USub (.Constant (.int 1) j p3) p1) _) pins s1 σ H1 (fun x H2 => x = .int (-1) ∧ H2 = H1) I1 ⟨_, rfl, rfl, rfl⟩) fun u s2 ⟨x2, H2, I2, r2, e2, e3⟩ => ?_
 subst e2 e3
 obtain ⟨t, rfl⟩ := r2
 cases r1
 have I4 : Inv X pins σ H2 { s2 with heap := s2.heap.push { cls := .type "slice", data := .fields #[.none, .none, .int (-1) t] } } := I2.kept (t' := s2.toks) fun b ob q => Heap.get?_push_of_some _ q
 obtain ⟨its, r, ht, hz⟩ := I4.list (SqL.of (K := X.K) hx)
 have hlen : its.length = xs.length := r.length.symm
 refine tail_any (ops := [.ref a, .ref s2.heap.objs.size]) ht.isList.typeIs slot_list_getitem.lookup (wpAny_getItem_list_slice ht.isList (Heap.IsSliceOf.new ..) .none .none (.int (-1) t) (by decide) ?_ (by rw [List.size_toArray, hlen]; exact hz)) (by with_unfolding_all rfl)
 rw [pick_backL]
 refine ⟨.ref _, _, I4.laid (t' := s2.toks) (o := .lst xs.reverse) (fun _ _ z => Heap.get?_push_of_some _ z) (Nat.le_refl _) ⟨by rw [List.length_reverse]; exact hz, its.reverse, 0, vals_back r, Heap.get?_push_size _ rfl⟩, rfl, q.of _ I4.fresh⟩
end
end L2
namespace L2
open PySem PySem.Spec PyProof.Rows
end L2
namespace L2
open PySem PySem.Spec PyProof.Rows
section
variable (P : Program) (w : World)
end
section
variable {P : Program} {w : World} {H H' : Hp} {h h' : Heap} {a : Addr} {o : HO}
end
section
variable {P : Program} {w : World} {H : Hp} {h h' : Heap} {x e : Addr} {o' : HO}
end
section
variable {fs fs' ex ex' : List Addr} {H H1 H2 : Hp} {h h1 h2 h' : Heap} {a x e : Addr} {o : HO}
end
end L2
namespace L2
open PySem PySem.Spec PyProof.Rows
section
variable {X : Cx} {pins : List (Addr × Obj)} {σ : List (Option V)} {H H' : Hp} {s : Shared} {h' : Heap}
end
end L2
namespace L2
open PySem PySem.Spec PyProof.Rows
section
variable {X : Cx}
variable {a b : Expr} {ta tb : TE} {pos : Pos}
variable {tA tB' : TT} {rest : List Expr}
end
end L2
namespace L2
open PySem PySem.Spec PyProof.Rows
section
variable {X : Cx} {pins : List (Addr × Obj)} {σ : St} {H : Hp} {s : Shared} {a : Addr} {xs ys : List V}
end
section
variable {X : Cx} {pins : List (Addr × Obj)} {σ : St} {H : Hp} {s : Shared} {E : Value → Shared → Prop}
end
section
variable {X : Cx} {st : Stmt} {rest : List Stmt} {t u : TS} {e : Expr} {te : TE} {pos : Pos}
end
section
variable {X : Cx} {pos : Pos}
end
section
variable {X : Cx} {pos : Pos}
end
end L2
namespace L2
open PySem PySem.Spec PyProof.Rows
section
variable {X : Cx} {tg : Expr}
end
end L2
namespace L2
open PySem PySem.Spec PyProof.Rows
section
variable {X : Cx} {a b c : Expr} {ta tb tc : TE} {pos : Pos}
end
section
variable {X : Cx} {a b c : Expr} {ta tb tc : TE} {pos : Pos}
end
end L2
namespace L2
open PySem PySem.Spec PyProof.Rows
section
variable {prog : Program} {w : World} {A : Around} {E : Value → Shared → Prop} {s : Shared} {K : PySem.W.Frag} {x dx C f : Addr} {mA : Str → Option Value} {name : Str} {v : Value}
end
section
variable {P : Program} {w : World} {H H' : Hp} {h h' : Heap} {a C dx : Addr} {fs fs' : List (Str × V)}
end
section
variable {X : Cx} {pins : List (Addr × Obj)} {σ : St} {H : Hp} {s : Shared} {a C dx : Addr} {fs : List (Str × V)} {f : Str} {v : V} {A : Around} {E : Value → Shared → Prop}
end
section
variable {X : Cx} {o e value : Expr} {f : Str} {pos pos' tpos : Pos} {ta tv : TE}
end
section
variable {X : Cx} {pins : List (Addr × Obj)} {σ : St} {H : Hp} {s : Shared} {A : Around} {E : Value → Shared → Prop} {Q : Value → Shared → Prop} {c : Value} {b : Bool}
end
end L2
namespace L2
open PySem PySem.Spec PyProof.Rows
section
variable {X : Cx} {e : Expr} {es : List Expr} {te : TE} {t : TA} {pos : Pos}
end
section
variable {X : Cx} {pins : List (Addr × Obj)} {σ : St} {H : Hp} {s s' : Shared}
end
section
variable {X : Cx} {CX : CXT} {k : Nat} {f C : Addr} {fd : FuncData} {ps : List Str} {sp : Sp} {dvs : List V} {ds : List Value} {E : XK} {x m : Str} {p pos apos : Pos} {e o : Expr} {es : List Expr} {ta : TE} {t : TA}
end
section
variable {X : Cx} {CX : CXT} {k : Nat} {f C : Addr} {fd : FuncData} {ps ks : List Str} {sp : Sp} {E : XK} {x m : Str} {p pos apos kpos : Pos} {e o : Expr} {es : List Expr} {kws : List Keyword} {te ta : TE} {t tk : TA} {nm : Option Str}
variable {g : List Value → List Value → List Value} {gV : List V → List V → List V}
end
end L2
namespace L2
open PySem PySem.Spec PyProof.Rows
section
variable {X : Cx} {x : Str} {p pos : Pos} {e : Expr} {es : List Expr} {t : TA} {id T : String} {r : List V → Hp → VK → Prop}
end
end L2
namespace L2
open PySem PySem.Spec PyProof.Rows
section
variable {κ : Type} [DecidableEq κ]
def valV (kvs : List (κ × V)) (k : κ) : Option V := (kvs.find? fun kv => decide (kv.1 = k)).map (·.2)
def putK (kvs : List (κ × V)) (k : κ) (v : V) : List (κ × V) :=
 if (kvs.any fun kv => decide (kv.1 = k)) = true then kvs.map (fun kv => if kv.1 = k then (kv.1, v) else kv) else kvs ++ [(k, v)]
def dropK (kvs : List (κ × V)) (k : κ) : List (κ × V) := kvs.filter fun kv => decide (kv.1 ≠ k)
theorem valV_pos {p : κ × V} {r : List (κ × V)} {k : κ} (e : p.1 = k) : valV (p :: r) k = some p.2 := by simp [valV, List.find?_cons, e]
theorem valV_neg {p : κ × V} {r : List (κ × V)} {k : κ} (e : ¬ p.1 = k) : valV (p :: r) k = valV r k := by simp [valV, List.find?_cons, e]
theorem valV_any (k : κ) : ∀ kvs : List (κ × V), (kvs.any fun kv => decide (kv.1 = k)) = (valV kvs k).isSome
 | [] => rfl
 | p :: r => by
  rw [List.any_cons]
  by_cases e : p.1 = k
  ·simp only [valV_pos e, decide_eq_true e, Bool.true_or, Option.isSome_some]
  ·rw [valV_neg e, decide_eq_false e, Bool.false_or]; exact valV_any k r
theorem length_putK (kvs : List (κ × V)) (k : κ) (v : V) : (putK kvs k v).length ≤ kvs.length + 1 := by
 unfold putK
 split
 ·rw [List.length_map]; omega
 ·rw [List.length_append, List.length_cons, List.length_nil]; omega
theorem putK_new {kvs : List (κ × V)} {k : κ} (v : V) (h : valV kvs k = none) : putK kvs k v = kvs ++ [(k, v)] := by
 unfold putK
 rw [valV_any, h]
 exact if_neg (by decide)
theorem RelO.isSome_eq {o : Option V} {u : Option Value} (r : RelO o u) : o.isSome = u.isSome := by
 cases o with
 | none => cases u with
  | none => rfl
  | some _ => exact (show False from r).elim
 | some _ => cases u with
  | none => exact (show False from r).elim
  | some _ => rfl
theorem RelO.getD {o : Option V} {u : Option Value} {d : V} {d' : Value} (r : RelO o u) (rd : RelV d d') : RelV (o.getD d) (u.getD d') := by
 cases o with
 | none => cases u with
  | none => exact rd
  | some _ => exact (show False from r).elim
 | some _ => cases u with
  | none => exact (show False from r).elim
  | some _ => exact r
theorem KV.val {kvs : List (κ × V)} {vs : List (κ × Value)} (r : KV kvs vs) (k : κ) : RelO (valV kvs k) (valueAt vs k) := by
 unfold KV at r
 induction r with
 | nil => exact True.intro
 | @cons p q ps qs h t ih =>
  obtain ⟨h1, h2⟩ := h
  by_cases e : p.1 = k
  ·have e' : q.1 = k := h1.symm.trans e
   have b : valueAt (q :: qs) k = some q.2 := by simp [valueAt, List.find?_cons, e']
   rw [valV_pos e, b]; exact h2
  ·have e' : ¬ q.1 = k := fun z => e (h1.trans z)
   have b : valueAt (q :: qs) k = valueAt qs k := by simp [valueAt, List.find?_cons, e']
   rw [valV_neg e, b]; exact ih
theorem KV.any {kvs : List (κ × V)} {vs : List (κ × Value)} (r : KV kvs vs) (k : κ) : (kvs.any fun kv => decide (kv.1 = k)) = vs.any fun kv => decide (kv.1 = k) := by
 unfold KV at r
 induction r with
 | nil => rfl
 | cons h t ih => rw [List.any_cons, List.any_cons, ih, h.1]
theorem KV.repl {kvs : List (κ × V)} {vs : List (κ × Value)} (r : KV kvs vs) (k : κ) {y : V} {u : Value} (ry : RelV y u) :
  KV (kvs.map fun kv => if kv.1 = k then (kv.1, y) else kv) (vs.map fun kv => if kv.1 = k then (kv.1, u) else kv) := by
 unfold KV at r ⊢
 induction r with
 | nil => exact .nil
 | @cons p q ps qs h t ih =>
  rw [List.map_cons, List.map_cons]
  refine .cons ?_ ih
  obtain ⟨h1, h2⟩ := h
  by_cases e : p.1 = k
  ·rw [if_pos e, if_pos (h1.symm.trans e)]; exact ⟨h1, ry⟩
  ·rw [if_neg e, if_neg (fun z => e (h1.trans z))]; exact ⟨h1, h2⟩
theorem KV.put {kvs : List (κ × V)} {vs : List (κ × Value)} (r : KV kvs vs) (k : κ) {y : V} {u : Value} (ry : RelV y u) : KV (putK kvs k y) (stored vs k u) := by
 unfold putK stored
 rw [r.any k]
 by_cases e : (vs.any fun kv => decide (kv.1 = k)) = true
 ·rw [if_pos e, if_pos e]; exact r.repl k ry
 ·rw [if_neg e, if_neg e]; exact Paired.snoc r ⟨rfl, ry⟩
theorem KV.drop {kvs : List (κ × V)} {vs : List (κ × Value)} (r : KV kvs vs) (k : κ) : KV (dropK kvs k) (without vs k) := by
 unfold KV at r ⊢
 unfold dropK without
 induction r with
 | nil => exact .nil
 | @cons p q ps qs h t ih =>
  obtain ⟨h1, h2⟩ := h
  rw [List.filter_cons, List.filter_cons]
  by_cases e : p.1 = k
  ·have a : ¬ decide (p.1 ≠ k) = true := by simp [e]
   have b : ¬ decide (q.1 ≠ k) = true := by simp [h1.symm.trans e]
   rw [if_neg a, if_neg b]; exact ih
  ·have e' : ¬ q.1 = k := fun z => e (h1.trans z)
   have a : decide (p.1 ≠ k) = true := by simp [e]
   have b : decide (q.1 ≠ k) = true := by simp [e']
   rw [if_pos a, if_pos b]; exact .cons ⟨h1, h2⟩ ih
theorem KV.keys {kvs : List (κ × V)} {vs : List (κ × Value)} (r : KV kvs vs) : kvs.map (·.1) = vs.map (·.1) := by
 unfold KV at r
 induction r with
 | nil => rfl
 | cons h t ih => rw [List.map_cons, List.map_cons, ih, h.1]
theorem KV.length {kvs : List (κ × V)} {vs : List (κ × Value)} (r : KV kvs vs) : kvs.length = vs.length := Paired.length r
end
theorem kV_is {P : Program} {w : World} {k : Key} {u : Value} (r : RelV (kV k) u) : (mixKind P w).is k u = true := by
 cases k with
 | inl i => obtain ⟨t, e⟩ := (show ∃ t, u = Value.int i t from r); subst e; exact mixKind_int P w i t
 | inr x => obtain ⟨t, e⟩ := (show ∃ t, u = Value.str x t from r); subst e; exact mixKind_str P w x t
theorem items_are {P : Program} {w : World} : ∀ {ks : List Key} {us : List Value}, Vals (ks.map kV) us → ItemsAre (mixKind P w) ks us
 | [], _, r => by rw [List.map_nil] at r; cases r; exact .nil
 | k :: ks, _, r => by
  rw [List.map_cons] at r
  cases r with
  | cons h t => exact .cons (kV_is h) (items_are t)
abbrev KT (H : Hp) : List (List Key × V) → List (List Key × Addr × Value) → Prop := Paired fun p q => p.1 = q.1 ∧ H q.2.1 = some (.tup (p.1.map kV)) ∧ RelV p.2 q.2.2
theorem KT.val {H : Hp} {kvs : List (List Key × V)} {xs : List (List Key × Addr × Value)} (r : KT H kvs xs) (k : List Key) : RelO (valV kvs k) ((atKey xs k).map (·.2)) := by
 induction r with
 | nil => exact True.intro
 | @cons p q ps qs h t ih =>
  obtain ⟨h1, _, h2⟩ := h
  by_cases e : p.1 = k
  ·have e' : q.1 = k := h1.symm.trans e
   have b : atKey (q :: qs) k = some q.2 := by simp [atKey, List.find?_cons, e']
   rw [valV_pos e, b]; exact h2
  ·have e' : ¬ q.1 = k := fun z => e (h1.trans z)
   have b : atKey (q :: qs) k = atKey qs k := by simp [atKey, List.find?_cons, e']
   rw [valV_neg e, b]; exact ih
theorem KT.repl {H : Hp} {kvs : List (List Key × V)} {xs : List (List Key × Addr × Value)} (r : KT H kvs xs) (k : List Key) {y : V} {u : Value} (ry : RelV y u) :
  KT H (kvs.map fun kv => if kv.1 = k then (kv.1, y) else kv) (xs.map (putAt k u)) := by
 induction r with
 | nil => exact .nil
 | @cons p q ps qs h t ih =>
  rw [List.map_cons, List.map_cons]
  refine .cons ?_ ih
  obtain ⟨h1, h2, h3⟩ := h
  unfold putAt
  by_cases e : p.1 = k
  ·rw [if_pos e, if_pos (h1.symm.trans e)]; exact ⟨h1, h2, ry⟩
  ·rw [if_neg e, if_neg (fun z => e (h1.trans z))]; exact ⟨h1, h2, h3⟩
theorem KT.put {H : Hp} {kvs : List (List Key × V)} {xs : List (List Key × Addr × Value)} (r : KT H kvs xs) (k : List Key) {b : Addr} {y : V} {u : Value} (hb : H b = some (.tup (k.map kV))) (ry : RelV y u) :
  KT H (putK kvs k y) (storedH xs k b u) := by
 have e : (kvs.any fun kv => decide (kv.1 = k)) = (atKey xs k).isSome := by
  rw [valV_any, (r.val k).isSome_eq, Option.isSome_map]
 unfold putK storedH
 rw [e]
 by_cases q : (atKey xs k).isSome = true
 ·rw [if_pos q, if_pos q]; exact r.repl k ry
 ·rw [if_neg q, if_neg q]; exact Paired.snoc r ⟨rfl, hb, ry⟩
theorem KT.keeps {H H' : Hp} {kvs : List (List Key × V)} {xs : List (List Key × Addr × Value)} (r : KT H kvs xs) (ht : ∀ b ys, H b = some (.tup ys) → H' b = some (.tup ys)) : KT H' kvs xs :=
 Paired.mapP r fun _ _ z => ⟨z.1, ht _ _ z.2.1, z.2.2⟩
section
variable {P : Program} {w : World} {H : Hp} {h : Heap} {a : Addr}
theorem rd_of {u : HO} (ok : HOk P w H h) (e : Rd H a u) : ObjOk P w H h a u := e.ok ok
theorem dk_rd {kvs : List (Key × V)} (ok : HOk P w H h) (e : Rd H a (.dK kvs)) : kvs.length ≤ sizeLine ∧ (a == sysModules) = false ∧ ∃ vs, KV kvs vs ∧ h.DictOf (mixKind P w) a vs :=
 show ObjOk P w H h a (.dK kvs) from rd_of ok e
theorem dk_of {kvs : List (Key × V)} (ok : HOk P w H h) (e : H a = some (.dK kvs)) : kvs.length ≤ sizeLine ∧ (a == sysModules) = false ∧ ∃ vs, KV kvs vs ∧ h.DictOf (mixKind P w) a vs := dk_rd ok (.inl e)
theorem key_of {ks : List Key} (ok : HOk P w H h) (e : H a = some (.tup (ks.map kV))) : (tupleKind (mixKind P w)).is h ks a := by
 obtain ⟨_, its, r, o, h1, h2, _, n, h3⟩ := (show ObjOk P w H h a (.tup (ks.map kV)) from ok a _ e)
 exact ⟨o, its.toArray, n, h1, h2, h3, by simpa using items_are r⟩
theorem dt_rd {kvs : List (List Key × V)} (ok : HOk P w H h) (e : Rd H a (.dT kvs)) : kvs.length ≤ sizeLine ∧ (a == sysModules) = false ∧
  ∃ xs, KT H kvs xs ∧ h.DictOfH (tupleKind (mixKind P w)) a xs := by
 obtain ⟨z, y, xs, r, o, es, ep, h1, h2, h3, h4, h5⟩ := (show ObjOk P w H h a (.dT kvs) from rd_of ok e)
 refine ⟨z, y, xs, r, o, es, ep, h1, h2, h3, h4, fun x hx => ?_, h5⟩
 have all : ∀ {l : List (List Key × V)} {m : List (List Key × Addr × Value)}, KT H l m → ∀ x ∈ m, (tupleKind (mixKind P w)).is h x.1 x.2.1 := by
  intro l m q
  induction q with
  | nil => intro x hx; exact nomatch hx
  | @cons p q ps qs hq t ih =>
   intro x hx
   rcases List.mem_cons.mp hx with e | hx
   ·subst e
    exact key_of ok (by rw [← hq.1]; exact hq.2.1)
   ·exact ih x hx
 exact all r x hx
theorem dt_of {kvs : List (List Key × V)} (ok : HOk P w H h) (e : H a = some (.dT kvs)) : kvs.length ≤ sizeLine ∧ (a == sysModules) = false ∧
  ∃ xs, KT H kvs xs ∧ h.DictOfH (tupleKind (mixKind P w)) a xs := dt_rd ok (.inl e)
end
def DGet (H : Hp) (a : Addr) (y : V) (r : Option V) : Prop :=
 (∃ kvs k, Rd H a (.dK kvs) ∧ y = kV k ∧ r = valV kvs k) ∨ ∃ kvs k b, Rd H a (.dT kvs) ∧ y = .ref b ∧ H b = some (.tup (k.map kV)) ∧ r = valV kvs k
def DPut (H : Hp) (a : Addr) (y v : V) (H' : Hp) : Prop :=
 (∃ kvs k, H a = some (.dK kvs) ∧ y = kV k ∧ kvs.length < sizeLine ∧ H' = upd H a (.dK (putK kvs k v))) ∨
 ∃ kvs k b, H a = some (.dT kvs) ∧ y = .ref b ∧ H b = some (.tup (k.map kV)) ∧ kvs.length < sizeLine ∧ H' = upd H a (.dT (putK kvs k v))
theorem DGet.k {H : Hp} {a : Addr} {kvs : List (Key × V)} {k : Key} (e : H a = some (.dK kvs)) : DGet H a (kV k) (valV kvs k) := .inl ⟨kvs, k, .inl e, rfl, rfl⟩
theorem DGet.t {H : Hp} {a b : Addr} {kvs : List (List Key × V)} {k : List Key} (e : H a = some (.dT kvs)) (eb : H b = some (.tup (k.map kV))) : DGet H a (.ref b) (valV kvs k) := .inr ⟨kvs, k, b, .inl e, rfl, eb, rfl⟩
theorem DPut.k {H : Hp} {a : Addr} {kvs : List (Key × V)} {k : Key} {v : V} (e : H a = some (.dK kvs)) (hl : kvs.length < sizeLine) : DPut H a (kV k) v (upd H a (.dK (putK kvs k v))) := .inl ⟨kvs, k, e, rfl, hl, rfl⟩
theorem DPut.t {H : Hp} {a b : Addr} {kvs : List (List Key × V)} {k : List Key} {v : V} (e : H a = some (.dT kvs)) (eb : H b = some (.tup (k.map kV))) (hl : kvs.length < sizeLine) :
  DPut H a (.ref b) v (upd H a (.dT (putK kvs k v))) := .inr ⟨kvs, k, b, e, rfl, eb, hl, rfl⟩
section
variable {X : Cx} {pins : List (Addr × Obj)} {σ : St} {H : Hp} {s : Shared} {a : Addr} {y v : V} {u r : Value} {o : Option V} {A : Around} {E : Value → Shared → Prop}
theorem d_getItem {Q : Value → Shared → Prop} (hu : A.units + 1 < cLine) (I : Inv X pins σ H s) (g : DGet H a y (some v)) (ry : RelV y u) (h : ∀ w' s', Inv X pins σ H s' → RelV v w' → Q w' s') :
  wpAny (model X.prog X.w) A (getItem (.ref a) u) Q E s := by
 rcases g with ⟨kvs, k, e, ey, l⟩ | ⟨kvs, k, b, e, ey, eb, l⟩
 ·subst ey
  obtain ⟨z, hd, vs, rel, dd⟩ := dk_rd I.hok e
  obtain ⟨w', hw, rw'⟩ := RelO.some_of (v := v) (o := valueAt vs k) (by rw [l]; exact rel.val k)
  exact wpAny_getItem_of (kV_is ry) dd.mapOf hw (h w' _ (I.tok _) rw')
 ·subst ey
  cases (show u = Value.ref b from ry)
  obtain ⟨z, hd, xs, rel, dd⟩ := dt_rd I.hok e
  obtain ⟨w', hw, rw'⟩ := RelO.some_of (v := v) (o := (atKey xs k).map (·.2)) (by rw [l]; exact rel.val k)
  obtain ⟨p, hp, hp2⟩ := Option.map_eq_some_iff.mp hw
  refine wpAny_getItem_heap (tupleKind_room_in1 hu) (key_of I.hok eb) dd hp ?_
  rw [hp2]
  exact h w' _ (I.tok _) rw'
theorem d_notIn {Q : Value → Shared → Prop} (hu : A.units + 1 < cLine) (I : Inv X pins σ H s) (g : DGet H a y o) (ry : RelV y u) (h : ∀ s', Inv X pins σ H s' → Q (.bool (!o.isSome)) s') :
  wpAny (model X.prog X.w) A (compareOp .NotIn u (.ref a)) Q E s := by
 rcases g with ⟨kvs, k, e, ey, l⟩ | ⟨kvs, k, b, e, ey, eb, l⟩
 ·subst ey
  obtain ⟨z, hd, vs, rel, dd⟩ := dk_rd I.hok e
  refine wpAny_notIn_of (kV_is ry) hd dd.mapOf ?_
  rw [← (rel.val k).isSome_eq, ← l]
  exact h _ (I.tok _)
 ·subst ey
  cases (show u = Value.ref b from ry)
  obtain ⟨z, hd, xs, rel, dd⟩ := dt_rd I.hok e
  refine wpAny_notIn_heap (tupleKind_room_in1 hu) (key_of I.hok eb) hd dd ?_
  have q := (rel.val k).isSome_eq
  rw [Option.isSome_map] at q
  rw [← q, ← l]
  exact h _ (I.tok _)
theorem d_write {h' : Heap} {t' : Nat} {ob : HO} (I : Inv X pins σ H s) (mu : Mut (H a)) (hs : Heap.SameBut a s.heap h') (he : ∃ q, h'.get? a = some q) (new : ObjOk X.prog X.w (upd H a ob) h' a ob) :
  Inv X pins σ (upd H a ob) { s with heap := h', toks := t' } :=
 I.write (x := a) (e := a) mu (.inl rfl) (fun b q hb z => (hs.2 b hb).trans z) he new
theorem dk_new {P : Program} {w : World} {H' : Hp} {h' : Heap} {kvs : List (Key × V)} {vs : List (Key × Value)} (z : kvs.length ≤ sizeLine) (hd : (a == sysModules) = false) (rel : KV kvs vs) (dd : h'.DictOf (mixKind P w) a vs) :
  ObjOk P w H' h' a (.dK kvs) := ⟨z, hd, vs, rel, dd⟩
theorem d_setItem {H' : Hp} {Q : Unit → Shared → Prop} (hu : A.units + 1 < cLine) (I : Inv X pins σ H s) (g : DPut H a y v H') (ry : RelV y u) (rv : RelV v r) (h : ∀ s', Inv X pins σ H' s' → Q () s') :
  wpAny (model X.prog X.w) A (setItem (.ref a) u r) Q E s := by
 rcases g with ⟨kvs, k, e, ey, l, eH⟩ | ⟨kvs, k, b, e, ey, eb, l, eH⟩
 ·subst ey eH
  obtain ⟨z, hd, vs, rel, dd⟩ := dk_of I.hok e
  have hz : vs.length ≤ sizeLine := by rw [← rel.length]; exact z
  have hl : (putK kvs k v).length ≤ sizeLine := by have := length_putK kvs k v; omega
  refine wpAny_setItem_pairs (hsz := hz) (kV_is ry) dd fun h' dd' hs => h _ ?_
  have he : ∃ q, h'.get? a = some q := let ⟨q, _, _, hq, _⟩ := dd'; ⟨q, hq⟩
  exact d_write I (by rw [e]; exact True.intro) hs he (dk_new hl hd (rel.put k rv) dd')
 ·subst ey eH
  cases (show u = Value.ref b from ry)
  obtain ⟨z, hd, xs, rel, dd⟩ := dt_of I.hok e
  have hz : xs.length ≤ sizeLine := by rw [← Paired.length rel]; exact z
  have hl : (putK kvs k v).length ≤ sizeLine := by have := length_putK kvs k v; omega
  refine wpAny_setItem_heap (hsz := hz) (tupleKind_room_in1 hu) (key_of I.hok eb) dd fun h' dd' hs => h _ ?_
  obtain ⟨q, es, ep, hq, h2, h3, h4, _, h5⟩ := dd'
  refine d_write I (by rw [e]; exact True.intro) hs ⟨q, hq⟩ ⟨hl, hd, _, (rel.put k eb rv).keeps fun c ys ec => ?_, q, es, ep, hq, h2, h3, h4, h5⟩
  rw [upd_ne (ne_of ec e (fun z => nomatch z))]
  exact ec
end
section
variable {X : Cx} {pins : List (Addr × Obj)} {σ : St} {H : Hp} {s : Shared} {a : Addr} {kvs : List (Key × V)} {k : Key} {u : Value} {A : Around} {E : Value → Shared → Prop}
end
def NoSl (i : Expr) : Prop := ∀ ov iv, subscripted i false ov iv = operate [ov, iv] (getItem ov iv)
theorem subD_of {prog : Program} {w : World} {A : Around} {E : Value → Shared → Prop} {s : Shared} {env : Env} {value slice : Expr} {pos : Pos} {T id : String} {Q : Value → Shared → Prop}
  (hl : typeLookup (.type T) "__getitem__" = pure (some (.builtin id))) (hs : NoSl slice)
  (h : wpAny (model prog w) A (eval value env) (fun o s₁ => wpAny (model prog w) A (eval slice env) (fun i s₂ => s₂.TypeIs o T ∧ wpAny (model prog w) A (getItem o i) Q E s₂) E s₁) E s) :
  wpAny (model prog w) A (eval (.Subscript value slice pos) env) Q E s := by
 refine Subscript_ (wpAny_mono h (fun o s₁ h₁ => wpAny_mono h₁ (fun i s₂ h₂ => ?_) fun _ _ x => x) fun _ _ x => x)
 obtain ⟨hT, h₂⟩ := h₂
 unfold subscriptTail
 refine wpAny_bind ?_
 rw [getitemInPython_of_ne hT.not_modules]
 refine wpAny_bind (wpAny_specialOf hT hl ?_)
 have fin : wpAny (model prog w) A (subscripted slice false o i) (fun r s₃ => wpAny (model prog w) A (letTemporaryGo value o r >>= fun _ => pure r) Q E s₃) E s₂ := by
  rw [hs o i]
  exact wpAny_operating (wpAny_mono h₂ (fun r s₃ h₃ => wpAny_bind (wpAny_letTemporaryGo (wpAny_pure h₃))) fun _ _ x => x)
 first
  | exact wpAny_pure (wpAny_bind fin)
  | exact wpAny_bind (wpAny_pure (wpAny_bind fin))
  | exact wpAny_bind fin
theorem dict_typeIs {X : Cx} {pins : List (Addr × Obj)} {σ : St} {H : Hp} {s : Shared} {a : Addr} {y : V} {o : Option V} (I : Inv X pins σ H s) (g : DGet H a y o) : s.TypeIs (.ref a) "dict" := by
 rcases g with ⟨kvs, k, e, _, _⟩ | ⟨kvs, k, b, e, _, _, _⟩
 ·obtain ⟨_, _, vs, _, dd⟩ := dk_rd I.hok e
  exact dd.typeIs
 ·obtain ⟨_, _, xs, _, dd⟩ := dt_rd I.hok e
  exact dd.typeIs
def tDGet (td ty : TE) : TE := fun σ H Q => td σ H fun x H1 => ty σ H1 fun y H2 => ∃ a v, x = .ref a ∧ DGet H2 a y (some v) ∧ Q v H2
def tDNotIn (ty td : TE) : TE := fun σ H Q => ty σ H fun y H1 => td σ H1 fun x H2 => ∃ a o, x = .ref a ∧ DGet H2 a y o ∧ Q (.bl (!o.isSome)) H2
def sDPut (td ty tv : TE) : TS := fun D σ H => tv σ H fun v H1 => td σ H1 fun x H2 => ty σ H2 fun y H3 => ∃ a H4, x = .ref a ∧ DPut H3 a y v H4 ∧ D.nx σ H4
section
variable {X : Cx} {o i e value : Expr} {pos pos' tpos : Pos} {td ty tv : TE}
theorem pe_dget (hu : X.A.units + 1 < cLine) (ho : PE X o td) (hi : PE X i ty) (hs : NoSl i) : PE X (.Subscript o i pos) (tDGet td ty) := by
 intro pins s σ H Q I h
 refine subD_of PySem.F.slot_dict_getitem.lookup hs (thn (ho pins s σ H _ I h) fun u s1 ⟨x, H1, I1, rx, q1⟩ => thn (hi pins s1 σ H1 _ I1 q1) fun iv s2 ⟨y, H2, I2, ry, a, v, ex, g, q2⟩ => ?_)
 subst ex
 obtain rfl : u = Value.ref a := rx
 exact ⟨dict_typeIs I2 g, d_getItem hu I2 g ry fun w' s3 I3 rw' => ⟨v, H2, I3, rw', q2⟩⟩
theorem pc_dnotin (hu : X.A.units + 1 < cLine) (hi : PE X i ty) (ho : PE X o td) : PC X .NotIn i o (tDNotIn ty td) := by
 intro pins s σ H Q I h
 refine thn (hi pins s σ H _ I h) fun iv s1 ⟨y, H1, I1, ry, q1⟩ => thn (ho pins s1 σ H1 _ I1 q1) fun u s2 ⟨x, H2, I2, rx, a, ov, ex, g, q2⟩ => ?_
 subst ex
 obtain rfl : u = Value.ref a := rx
 exact d_notIn hu I2 g ry fun s3 I3 => ⟨.bl (!ov.isSome), H2, I3, rfl, q2⟩
theorem ps_dput (hu : X.A.units + 1 < cLine) (ho : PE X o td) (hi : PE X i ty) (hv : PE X value tv) (hs : swapsWith value (some (.Subscript o i pos')) pos.line X.env = pure false) :
  PS X (.Assign [.Subscript o i pos'] value pos) (sDPut td ty tv) := by
 intro pins s σ H D I h
 refine wpAny_Assign_Subscript (thn (hv pins s σ H _ I h) fun r s1 ⟨v, H1, I1, rv, q1⟩ => thn (ho pins s1 σ H1 _ I1 q1) fun u s2 ⟨x, H2, I2, rx, q2⟩ => thn (hi pins s2 σ H2 _ I2 q2) fun iv s3 ⟨y, H3, I3, ry, a, H4, ex, g, q3⟩ => ?_) hs
 subst ex
 obtain rfl : u = Value.ref a := rx
 exact d_setItem hu I3 g ry rv fun s4 I4 => ⟨σ, H4, I4, q3⟩
end
section
variable {X : Cx} {pos : Pos}
end
def tPairs : List (TE × TE) → St → Hp → (List (V × V) → Hp → Prop) → Prop
 | [], _, H, Q => Q [] H
 | (tk, tv) :: r, σ, H, Q => tk σ H fun x H1 => tv σ H1 fun y H2 => tPairs r σ H2 fun ps H3 => Q ((x, y) :: ps) H3
abbrev VV : List (V × V) → List (Value × Value) → Prop := Paired fun p q => RelV p.1 q.1 ∧ RelV p.2 q.2
def PPs (X : Cx) (pos : Pos) (keys : List (Option Expr)) (values : List Expr) (trs : List (TE × TE)) : Prop :=
 ∀ (pins : List (Addr × Obj)) (s : Shared) (σ : St) (H : Hp) (Q : List (V × V) → Hp → Prop), Inv X pins σ H s → tPairs trs σ H Q →
  wpAny (model X.prog X.w) X.A (evalPairs (pairTrees keys values X.env pos)) (fun vs s' => ∃ ps H', Inv X pins σ H' s' ∧ VV ps vs ∧ Q ps H') X.xe s
theorem pps_nil {X : Cx} {pos : Pos} : PPs X pos [] [] [] := fun pins s σ H Q I h => pairTrees_nil_walk ⟨[], H, I, .nil, h⟩
theorem pps_cons {X : Cx} {pos : Pos} {k v : Expr} {ks : List (Option Expr)} {vs : List Expr} {tk tv : TE} {trs : List (TE × TE)} (hk : PE X k tk) (hv : PE X v tv) (hr : PPs X pos ks vs trs) :
  PPs X pos (some k :: ks) (v :: vs) ((tk, tv) :: trs) := fun pins s σ H Q I h =>
 pairTrees_cons_walk (thn (hk pins s σ H _ I h) fun u s1 ⟨x, H1, I1, rx, q1⟩ => thn (hv pins s1 σ H1 _ I1 q1) fun w2 s2 ⟨y, H2, I2, ry, q2⟩ =>
  thn (hr pins s2 σ H2 _ I2 q2) fun ws s3 ⟨ps, H3, I3, rel, q3⟩ => ⟨(x, y) :: ps, H3, I3, .cons ⟨rx, ry⟩ rel, q3⟩)
def mergeK (kvs more : List (Key × V)) : List (Key × V) := more.foldl (fun acc kv => putK acc kv.1 kv.2) kvs
theorem KV.merge : ∀ {more : List (Key × V)} {rs : List (Key × Value)} {kvs : List (Key × V)} {vs : List (Key × Value)}, KV more rs → KV kvs vs → KV (mergeK kvs more) (merged vs rs) := by
 intro more rs kvs vs r
 unfold KV at r
 induction r generalizing kvs vs with
 | nil => intro q; exact q
 | @cons p q ps qs h t ih =>
  intro r0
  have e : KV (putK kvs p.1 p.2) (stored vs q.1 q.2) := by
   have := r0.put p.1 h.2
   rw [← h.1]; exact this
  exact ih e
theorem length_mergeK : ∀ (more kvs : List (Key × V)), (mergeK kvs more).length ≤ kvs.length + more.length
 | [], kvs => by show kvs.length ≤ kvs.length + 0; omega
 | p :: r, kvs => by
  have h1 := length_mergeK r (putK kvs p.1 p.2)
  have h2 := length_putK kvs p.1 p.2
  show (mergeK (putK kvs p.1 p.2) r).length ≤ _
  rw [List.length_cons]; omega
theorem carries_of {P : Program} {w : World} : ∀ {kvs : List (Key × V)} {ws : List (Value × Value)}, VV (kvs.map fun kv => (kV kv.1, kv.2)) ws → ∃ rs, Carries (mixKind P w) ws rs ∧ KV kvs rs
 | [], _, r => by rw [List.map_nil] at r; cases r; exact ⟨[], True.intro, .nil⟩
 | p :: kvs, _, r => by
  rw [List.map_cons] at r
  cases r with
  | @cons a b as bs h t =>
   obtain ⟨rs, c, q⟩ := carries_of (P := P) (w := w) t
   obtain ⟨b1, b2⟩ := b
   exact ⟨(p.1, b2) :: rs, ⟨kV_is h.1, rfl, c⟩, .cons ⟨rfl, h.2⟩ q⟩
def tDisp (trs : List (TE × TE)) : TE := fun σ H Q => ∀ p, H p = none → tPairs trs σ (upd H p (.dK [])) fun ps H2 => H2 p = some (.dK []) ∧ ∃ kvs : List (Key × V), ps = kvs.map (fun kv => (kV kv.1, kv.2)) ∧ kvs.length ≤ 15 ∧ Q (.ref p) (upd H2 p (.dK (mergeK [] kvs)))
theorem pe_disp {X : Cx} {pos : Pos} {keys : List (Option Expr)} {values : List Expr} {trs : List (TE × TE)} (h : PPs X pos keys values trs) (hall : keys.all (·.isSome) = true) (hl : keys.length = values.length) (h0 : keys ≠ [])
  (h15 : keys.length ≤ 15) : PE X (.Dict keys values pos) (tDisp trs) := by
 intro pins s σ H Q I q
 have hn := I.hok.fresh (Nat.le_refl s.heap.objs.size)
 have I1 := I.laid (a := s.heap.objs.size) (o := .dK []) (h' := s.heap.push { cls := .type "dict", data := .dict #[] }) (t' := s.toks) (fun _ _ q => Heap.get?_push_of_some _ q) (Nat.le_refl _) (dk_empty s.heap I.big)
 refine wpAny_Dict_walk (knd := mixKind X.prog X.w) hall hl h0 h15 (thn (h pins _ σ _ _ I1 (q _ hn)) fun ws s2 ⟨ps, H2, I2, rel, e, kvs, ep, lk, q2⟩ => ?_)
 subst ep
 obtain ⟨rs, c, rk⟩ := carries_of (P := X.prog) (w := X.w) rel
 obtain ⟨z, hd, vs0, r0, dd⟩ := dk_of I2.hok e
 cases r0
 refine ⟨rs, c, dd, fun h' dd' hs => ⟨.ref s.heap.objs.size, _, ?_, rfl, q2⟩⟩
 have hz : (mergeK [] kvs).length ≤ sizeLine := by
  have h1 := length_mergeK kvs []
  rw [List.length_nil] at h1
  rw [sizeLine_eq]; omega
 have he : ∃ q, h'.get? s.heap.objs.size = some q := let ⟨q, _, _, hq, _⟩ := dd'; ⟨q, hq⟩
 exact d_write I2 (by rw [e]; exact True.intro) hs he (dk_new hz hd (rk.merge .nil) dd')
structure M1 (X : Cx) (o : Expr) (m : Str) (apos : Pos) (e : Expr) (cpos : Pos) : Prop where
 base : attributeBase o m X.env (eval o X.env) = eval o X.env
 few : ((backTo cpos (starEach [e] X.env)).all (fun x => !x.1) && (backToKw cpos (keywordEach [] X.env)).all (fun x => x.1.isSome)
  && decide (([e] : List Expr).length + ([] : List Keyword).length + (if ([] : List Keyword).isEmpty then 0 else 1) < 30)) = true
 line : (apos.endLine == cpos.line) = true
 trees : backTo cpos (starEach [e] X.env) = [(false, eval e X.env)]
structure M2 (X : Cx) (o : Expr) (m : Str) (apos : Pos) (e f : Expr) (cpos : Pos) : Prop where
 base : attributeBase o m X.env (eval o X.env) = eval o X.env
 few : ((backTo cpos (starEach [e, f] X.env)).all (fun x => !x.1) && (backToKw cpos (keywordEach [] X.env)).all (fun x => x.1.isSome)
  && decide (([e, f] : List Expr).length + ([] : List Keyword).length + (if ([] : List Keyword).isEmpty then 0 else 1) < 30)) = true
 line : (apos.endLine == cpos.line) = true
 trees : backTo cpos (starEach [e, f] X.env) = [(false, eval e X.env), (false, eval f X.env)]
section
variable {X : Cx} {pins : List (Addr × Obj)} {σ : St} {H : Hp} {s : Shared} {a : Addr} {y d : V} {u r : Value} {o : Option V} {A : Around} {E : Value → Shared → Prop}
end
section
variable {X : Cx} {o e f : Expr} {apos cpos : Pos} {td ty tx : TE}
end
section
variable {X : Cx} {pins : List (Addr × Obj)} {σ : St} {H : Hp} {s : Shared} {a : Addr} {kvs : List (Key × V)} {A : Around} {E : Value → Shared → Prop}
end
section
variable {X : Cx} {pins : List (Addr × Obj)} {σ : St} {H : Hp} {s : Shared} {a : Addr} {y : V} {u : Value} {A : Around} {E : Value → Shared → Prop}
end
end L2
namespace Att
open PySem PySem.W PySem.Calls PyProof.Rows
section
variable {prog : Program} {w : World} {A : Around} {E : Value → Shared → Prop} {s : Shared} {K : Frag}
end
end Att
namespace L2
open PySem PySem.Spec PyProof.Rows
end L2
namespace L2
open PySem PySem.Spec PyProof.Rows
end L2
namespace L2
open PySem PySem.Spec PyProof.Rows
section
variable {P : Program} {w : World} {K : PySem.W.Frag} {mg : Str → Option Value} {base : Heap}
end
section
variable {X : Cx}
end
section
variable {κ : Type} [DecidableEq κ]
end
end L2
namespace L2
open PySem PySem.Spec PyProof.Rows
section
variable {M : Model} {A : Around} {E : Value → Shared → Prop}
theorem wp_forIn {α β : Type} {f : α → β → Sem (ForInStep β)} {Q : β → Shared → Prop} : ∀ (l : List α) (I : Nat → β → Shared → Prop) (b : β) (s : Shared), I 0 b s →
  (∀ i a b s, l[i]? = some a → I i b s → wpAny M A (f a b) (fun r s' => ∃ b', r = .yield b' ∧ I (i + 1) b' s') E s) → (∀ b s, I l.length b s → Q b s) → wpAny M A (forIn l b f) Q E s
 | [], _, b, s, h0, _, hd => by
  rw [List.forIn_nil]
  exact wpAny_pure (hd b s h0)
 | a :: l, I, b, s, h0, hs, hd => by
  rw [List.forIn_cons]
  refine wpAny_bind (wpAny_mono (hs 0 a b s rfl h0) (fun r s' ⟨b', e, h'⟩ => ?_) fun _ _ f => f)
  subst e
  exact wp_forIn l (fun i => I (i + 1)) b' s' h' (fun i a b s ha hi => hs (i + 1) a b s ha hi) fun b s h => hd b s h
end
structure Sq where
 l : Bool
 a : Addr
def SqAt (h : Heap) (c : Sq) (xs : Array Value) : Prop := match c.l with | true => h.IsList c.a xs | false => h.IsTuple c.a xs
def ItAt (h : Heap) (c : Sq) (i : Addr) (k : Nat) : Prop := match c.l with | true => h.IsListIter i c.a k | false => h.IsTupleIter i c.a k
abbrev IsRow (h : Heap) (T : Addr) (vs : List Value) : Prop := h.get? T = some { cls := .type "tuple", data := .seq vs.toArray }
theorem SqAt.ext {h g : Heap} {c : Sq} {xs : Array Value} (x : SqAt h c xs) (e : ∀ o, h.get? c.a = some o → g.get? c.a = some o) : SqAt g c xs := by
 obtain ⟨l, a⟩ := c
 cases l with
 | true => obtain ⟨o, ho, r⟩ := (show h.IsList a xs from x); exact ⟨o, e o ho, r⟩
 | false => obtain ⟨o, ho, r⟩ := (show h.IsTuple a xs from x); exact ⟨o, e o ho, r⟩
theorem ItAt.ext {h g : Heap} {c : Sq} {i : Addr} {k : Nat} (x : ItAt h c i k) (e : ∀ o, h.get? i = some o → g.get? i = some o) : ItAt g c i k := by
 obtain ⟨l, a⟩ := c
 cases l with
 | true => obtain ⟨o, ho, r⟩ := (show h.IsListIter i a k from x); exact ⟨o, e o ho, r⟩
 | false => obtain ⟨o, ho, r⟩ := (show h.IsTupleIter i a k from x); exact ⟨o, e o ho, r⟩
theorem ItAt.obj {h : Heap} {c : Sq} {i : Addr} {k : Nat} (x : ItAt h c i k) : ∃ o, h.get? i = some o ∧ ∀ v, o.data ≠ .cell v := by
 obtain ⟨l, a⟩ := c
 cases l with
 | true => obtain ⟨o, ho, _, d⟩ := (show h.IsListIter i a k from x); exact ⟨o, ho, fun v z => by rw [d] at z; cases z⟩
 | false => obtain ⟨o, ho, _, d⟩ := (show h.IsTupleIter i a k from x); exact ⟨o, ho, fun v z => by rw [d] at z; cases z⟩
section
variable {prog : Program} {w : World} {A : Around} {E : Value → Shared → Prop} {s : Shared}
theorem nextS_item {c : Sq} {i : Addr} {k : Nat} {xs : Array Value} {v : Value} {Q : Value → Shared → Prop} (jt : ItAt s.heap c i k) (tt : SqAt s.heap c xs) (hv : xs[k]? = some v)
  (q : ∀ g, ItAt g c i (k + 1) → Heap.SameBut i s.heap g → Q v { s with heap := g }) : wpAny (model prog w) A (Builtin.SmallTypes.nextOf (.ref i)) Q E s := by
 obtain ⟨l, a⟩ := c
 cases l with
 | true => exact wpAny_nextOf_list_item (show s.heap.IsListIter i a k from jt) (show s.heap.IsList a xs from tt) hv fun g h1 h2 => q g h1 h2
 | false => exact nextT_item (show s.heap.IsTupleIter i a k from jt) (show s.heap.IsTuple a xs from tt) hv fun g h1 h2 => q g h1 h2
theorem nextS_end {c : Sq} {i : Addr} {k : Nat} {xs : Array Value} {Q : Value → Shared → Prop} (hh : A.handled = none) (jt : ItAt s.heap c i k) (tt : SqAt s.heap c xs) (hv : xs[k]? = none)
  (q : ∀ g x, Heap.ExtBut i s.heap g → (∃ o, g.get? x = some o ∧ o.cls = .type "StopIteration") → E (.ref x) { s with heap := g }) : wpAny (model prog w) A (Builtin.SmallTypes.nextOf (.ref i)) Q E s := by
 obtain ⟨l, a⟩ := c
 cases l with
 | true => exact wpAny_nextOf_list_end hh (show s.heap.IsListIter i a k from jt) (show s.heap.IsList a xs from tt) hv fun g x h1 h2 => q g x h1 h2
 | false => exact nextT_end hh (show s.heap.IsTupleIter i a k from jt) (show s.heap.IsTuple a xs from tt) hv fun g x h1 h2 => q g x h1 h2
theorem iterS {c : Sq} {xs : Array Value} {Q : Value → Shared → Prop} (tt : SqAt s.heap c xs)
  (q : ∀ g, ItAt g c s.heap.objs.size 0 → g.objs.size = s.heap.objs.size + 1 → (∀ b o, s.heap.get? b = some o → g.get? b = some o) → Q (.ref s.heap.objs.size) { s with heap := g }) : wpAny (model prog w) A (pyIter (.ref c.a)) Q E s := by
 obtain ⟨l, a⟩ := c
 cases l with
 | true => exact wpAny_pyIter_list (show s.heap.IsList a xs from tt) (q _ ⟨_, Heap.get?_push_size _ rfl, rfl, rfl⟩ (Heap.size_push ..) fun b o e => Heap.get?_push_of_some _ e)
 | false => exact wpAny_pyIter_tuple (show s.heap.IsTuple a xs from tt) (q _ ⟨_, Heap.get?_push_size _ rfl, rfl, rfl⟩ (Heap.size_push ..) fun b o e => Heap.get?_push_of_some _ e)
theorem updRow {T : Addr} {vs : List Value} {x : Value} {k : Nat} {Q : Unit → Shared → Prop} (hT : IsRow s.heap T vs) (hz : vs.length ≤ 100)
  (h : ∀ g, IsRow g T (vs.set k x) → Heap.SameBut T s.heap g → Q () { s with heap := g }) : wpAny (model prog w) A (updateSeq T (·.setIfInBounds k x)) Q E s := by
 refine wpAny_updateSeq hT rfl (h _ ?_ (Heap.SameBut.update ..)) (by rw [List.size_toArray]; exact Nat.le_trans hz (by decide)) (by rw [Array.size_setIfInBounds, List.size_toArray]; exact Nat.le_trans hz (by decide))
 show Heap.get? _ T = _
 rw [Heap.get?_update_self _ hT rfl]
 simp [Obj.mapSeq]
structure ZIn (h g : Heap) (z TI TO : Addr) (cs : List Sq) (is : List Addr) (k j : Nat) (vs old : List Value) : Prop where
 sz : g.objs.size = h.objs.size
 zip : IsZip g z TI TO .ellipsis
 row : IsRow g TO (vs.take j ++ old.drop j)
 its : ∀ (n : Nat) c i, cs[n]? = some c → is[n]? = some i → ItAt g c i (if n < j then k + 1 else k)
 ext : ∀ e o, e ≠ z → e ≠ TO → e ∉ is → h.get? e = some o → g.get? e = some o
structure ZOk (h : Heap) (z TI TO : Addr) (cs : List Sq) (is : List Addr) (k : Nat) (old : List Value) : Prop where
 len : is.length = cs.length
 few : cs.length ≤ 8
 pos : 0 < cs.length
 nod : (z :: TI :: TO :: is).Nodup
 zip : IsZip h z TI TO .none
 ti : IsRow h TI (is.map Value.ref)
 to : IsRow h TO old
 lo : old.length = cs.length
 its : ∀ (n : Nat) c i, cs[n]? = some c → is[n]? = some i → ItAt h c i k
 off : ∀ c ∈ cs, c.a ≠ z ∧ c.a ≠ TO ∧ c.a ∉ is
theorem nod_ne {is : List Addr} {i : Addr} {n j : Nat} {e : Addr} (hn : is.Nodup) (h1 : is[j]? = some i) (h2 : is[n]? = some e) (h : n ≠ j) : e ≠ i := fun z => by
 subst z
 have a := (List.getElem?_eq_some_iff.mp h1)
 have b := (List.getElem?_eq_some_iff.mp h2)
 obtain ⟨ha, ea⟩ := a
 obtain ⟨hb, eb⟩ := b
 exact h ((List.getElem_inj hn).mp (eb.trans ea.symm))
theorem ZIn.step {h g : Heap} {z TI TO : Addr} {cs : List Sq} {is : List Addr} {k j : Nat} {vs old : List Value} {i : Addr} {c : Sq} (D : ZOk h z TI TO cs is k old) (Z : ZIn h g z TI TO cs is k j vs old) (hi : is[j]? = some i) (hc : cs[j]? = some c) {g2 g3 : Heap} {v : Value} (hv : vs[j]? = some v) (lv : vs.length = cs.length)
  (n2 : ItAt g2 c i (k + 1)) (s2 : Heap.SameBut i g g2) (r3 : IsRow g3 TO ((vs.take j ++ old.drop j).set j v)) (s3 : Heap.SameBut TO g2 g3) : ZIn h g3 z TI TO cs is k (j + 1) vs old := by
 have nod := D.nod
 rw [List.nodup_cons, List.nodup_cons, List.nodup_cons] at nod
 obtain ⟨nz, nT, nO, ni⟩ := nod
 have mi : i ∈ is := List.mem_of_getElem? hi
 have iz : z ≠ i := fun q => nz (by rw [q]; simp [mi])
 have iO : TO ≠ i := fun q => nO (by rw [q]; exact mi)
 have zO : z ≠ TO := fun q => nz (by rw [q]; simp)
 have jl : j < cs.length := (List.getElem?_eq_some_iff.mp hc).1
 refine ⟨by rw [s3.1, s2.1, Z.sz], s3.extBut _ _ zO (s2.extBut _ _ iz Z.zip), ?_, fun n c' i' hc' hi' => ?_, fun e o e1 e2 e3 q => s3.extBut _ _ e2 (s2.extBut _ _ (fun y => e3 (by rw [y]; exact mi)) (Z.ext e o e1 e2 e3 q))⟩
 ·have lo := D.lo
  have e : (vs.take j ++ old.drop j).set j v = vs.take (j + 1) ++ old.drop (j + 1) := by
   have l1 : (vs.take j).length = j := by rw [List.length_take]; omega
   rw [List.set_append, if_neg (by omega), l1, Nat.sub_self, List.drop_eq_getElem_cons (by omega : j < old.length), List.set_cons_zero, List.take_add_one, hv]
   simp
  rw [← e]; exact r3
 ·have mi' : i' ∈ is := List.mem_of_getElem? hi'
  have iO' : i' ≠ TO := fun q => nO (by rw [← q]; exact mi')
  by_cases e : n = j
  ·subst e
   rw [hi] at hi'; rw [hc] at hc'
   cases hi'; cases hc'
   rw [if_pos (by omega)]
   exact n2.ext fun o q => s3.extBut _ _ iO' q
  ·have q := Z.its n c' i' hc' hi'
   have e2 : (if n < j + 1 then k + 1 else k) = (if n < j then k + 1 else k) := by
    by_cases y : n < j
    ·rw [if_pos y, if_pos (by omega)]
    ·rw [if_neg y, if_neg (by omega)]
   rw [e2]
   exact q.ext fun o r => s3.extBut _ _ iO' (s2.extBut _ _ (nod_ne ni hi hi' e) r)
theorem zipS_go {z TI TO : Addr} {cs : List Sq} {is : List Addr} {k : Nat} {old vs : List Value} {Q : Option Value → Shared → Prop} (D : ZOk s.heap z TI TO cs is k old)
  (hv : ∀ (n : Nat) c, cs[n]? = some c → ∃ xs v, SqAt s.heap c xs ∧ xs[k]? = some v ∧ vs[n]? = some v) (lv : vs.length = cs.length)
  (q : ∀ g, IsZip g z TI TO (rawInt s.heap.objs.size) → IsRow g TO vs → (∀ (n : Nat) c i, cs[n]? = some c → is[n]? = some i → ItAt g c i (k + 1)) → IsRow g s.heap.objs.size vs → g.objs.size = s.heap.objs.size + 1 →
   (∀ e o, e ≠ z → e ≠ TO → e ∉ is → s.heap.get? e = some o → g.get? e = some o) → Q (some (.ref s.heap.objs.size)) { s with heap := g }) : wpAny (model prog w) A (pyNext (.ref z)) Q E s := by
 have hT : s.TypeIs (.ref z) "zip" := ⟨_, D.zip, rfl⟩
 have nod := D.nod
 rw [List.nodup_cons, List.nodup_cons, List.nodup_cons] at nod
 obtain ⟨nz, nT, nO, ni⟩ := nod
 have zO : z ≠ TO := fun q => nz (by rw [q]; simp)
 have few := D.few
 have len := D.len
 unfold pyNext
 refine wpAny_bind (wpAny_attempt (wpAny_callSpecial?_slot (name := Str.ofString "__next__") hT F.slot_zip_next (wpAny_call_entry F.slot_zip_next hT F.entry_zip_next ?_ (F.args_zip_next_1 _))))
 show wpAny _ _ (field (.ref z) 2 >>= _) _ _ s
 refine wpAny_bind (wpAny_field D.zip rfl (x := .bool false) (by rfl) ?_)
 show wpAny _ _ (field (.ref z) 3 >>= _) _ _ s
 refine wpAny_bind (wpAny_field D.zip rfl (x := .ref TI) (by rfl) ?_)
 refine wpAny_bind (wpAny_seqItems D.ti rfl ?_)
 dsimp only
 rw [if_neg (by intro y; rw [Array.isEmpty_iff_size_eq_zero, List.size_toArray, List.length_map, len] at y; have := D.pos; omega)]
 refine wpAny_bind ?_
 unfold Builtin.SmallTypes.ownedTupleIsFree
 refine wpAny_bind (wpAny_field D.zip rfl (x := .none) (by rfl) (wpAny_pure ?_))
 simp only [if_true]
 refine wpAny_bind (wpAny_rule ?_)
 refine wpAny_bind (wpAny_field D.zip rfl (x := .ref TO) (by rfl) ?_)
 refine wpAny_bind (wpAny_setField_rec D.zip (by simp) fun g1 z1 s1 => ?_)
 have z1 : IsZip g1 z TI TO .ellipsis := z1
 refine wpAny_bind ?_
 refine wp_forIn _ (fun j b s' => b = _ ∧ ∃ g, s' = { s with heap := g } ∧ ZIn s.heap g z TI TO cs is k j vs old) _ _ ⟨rfl, g1, rfl, ?_⟩ ?_ ?_
 ·refine ⟨s1.1, z1, s1.extBut _ _ zO.symm D.to, fun n c i hc hi => ?_, fun e o e1 _ _ h => s1.extBut _ _ e1 h⟩
  rw [if_neg (by omega)]
  exact (D.its n c i hc hi).ext fun o h => s1.extBut _ _ (fun y => nz (by rw [← y]; simp [List.mem_of_getElem? hi])) h
 ·rintro j a b s' ha ⟨rfl, g, rfl, Z⟩
  rw [List.getElem?_zipIdx] at ha
  obtain ⟨x, hx, rfl⟩ := Option.map_eq_some_iff.mp ha
  have hx : (is.map Value.ref)[j]? = some x := by simpa using hx
  rw [List.getElem?_map] at hx
  obtain ⟨i, hi, rfl⟩ := Option.map_eq_some_iff.mp hx
  have jl : j < cs.length := by rw [← len]; exact (List.getElem?_eq_some_iff.mp hi).1
  have hc : cs[j]? = some cs[j] := gE jl
  obtain ⟨xs, v, hq, hxv, hvv⟩ := hv j _ hc
  obtain ⟨o1, o2, o3⟩ := D.off _ (List.getElem_mem jl)
  have it := Z.its j _ i hc hi
  rw [if_neg (by omega)] at it
  dsimp only
  refine wpAny_bind (wpAny_onRaise ?_)
  show wpAny _ _ (Builtin.SmallTypes.nextOf (.ref i) >>= _) _ _ _
  refine wpAny_bind (nextS_item it (hq.ext fun o h => Z.ext _ o o1 o2 o3 h) hxv fun g2 n2 s2 => wpAny_pure ?_)
  have iO : TO ≠ i := fun q => nO (by rw [q]; exact List.mem_of_getElem? hi)
  have r2 : IsRow g2 TO (vs.take j ++ old.drop j) := s2.extBut _ _ iO Z.row
  refine wpAny_bind (wpAny_seqItems r2 rfl ?_)
  refine wpAny_bind (updRow (x := v) (k := 0 + j) r2 (by rw [List.length_append, List.length_take, List.length_drop]; have := D.lo; omega) fun g3 r3 s3 => ?_)
  rw [Nat.zero_add] at r3
  refine wpAny_bind (wpAny_letGo (wpAny_pure ⟨_, rfl, rfl, g3, rfl, Z.step D hi hc hvv lv n2 s2 r3 s3⟩))
 ·rintro b s' ⟨rfl, g5, rfl, Z⟩
  have ll : ((is.map Value.ref).toArray.toList.zipIdx).length = cs.length := by simp [len]
  rw [ll] at Z
  have z5 := Z.zip
  have o5 : IsRow g5 TO vs := by
   have := Z.row
   rw [← lv, List.take_length, lv, ← D.lo, List.drop_length, List.append_nil] at this
   exact this
  have m5 : ∀ (n : Nat) c i, cs[n]? = some c → is[n]? = some i → ItAt g5 c i (k + 1) := fun n c i hc hi => by
   have := Z.its n c i hc hi
   rw [if_pos (List.getElem?_eq_some_iff.mp hc).1] at this
   exact this
  dsimp only
  refine wpAny_bind (wpAny_seqItems o5 rfl ?_)
  refine wpAny_bind (wpAny_newTuple ?_)
  have zlt : z < g5.objs.size := Heap.lt_size z5
  have sz := Z.sz
  refine wpAny_bind ?_
  unfold Builtin.SmallTypes.ownedTupleHandOut
  have z6 : IsZip (g5.push { cls := .type "tuple", data := .seq vs.toArray }) z TI TO .ellipsis := Heap.get?_push_of_some _ z5
  refine wpAny_bind (wpAny_setField_rec z6 (by simp) fun g7 z7 s7 => ?_)
  have z7 : IsZip g7 z TI TO (rawInt g5.objs.size) := z7
  refine wpAny_setField_rec z7 (by simp) fun g8 z8 s8 => ?_
  have z8 : IsZip g8 z TI TO (rawInt g5.objs.size) := z8
  have up : ∀ e o, e ≠ z → g5.get? e = some o → g8.get? e = some o := fun e o c1 h => s8.extBut _ _ c1 (s7.extBut _ _ c1 (Heap.get?_push_of_some _ h))
  have t8 : IsRow g8 g5.objs.size vs := s8.extBut _ _ (Nat.ne_of_gt zlt) (s7.extBut _ _ (Nat.ne_of_gt zlt) (Heap.get?_push_size _ rfl))
  have sz8 : g8.objs.size = g5.objs.size + 1 := by rw [s8.1, s7.1, Heap.size_push]
  rw [sz] at z8 t8 sz8
  refine wpAny_pure ⟨_, rfl, ?_⟩
  refine wpAny_pure ?_
  show Q (some (.ref g5.objs.size)) _
  rw [sz]
  refine q g8 z8 (up _ _ zO.symm o5) (fun n c i hc hi => (m5 n c i hc hi).ext fun o h => up _ o (fun y => nz (by rw [← y]; simp [List.mem_of_getElem? hi])) h) t8 sz8 fun e o c1 c2 c3 h => up e o c1 (Z.ext e o c1 c2 c3 h)
theorem zipS_stop {z TI TO : Addr} {cs : List Sq} {is : List Addr} {k : Nat} {old vs : List Value} {m : Nat} {cm : Sq} {Q : Option Value → Shared → Prop} (hh : A.handled = none) (D : ZOk s.heap z TI TO cs is k old)
  (hv : ∀ (n : Nat) c, cs[n]? = some c → n < m → ∃ xs v, SqAt s.heap c xs ∧ xs[k]? = some v ∧ vs[n]? = some v) (lv : vs.length = cs.length) (hm : cs[m]? = some cm) {xm : Array Value} (hxm : SqAt s.heap cm xm) (hem : xm[k]? = none)
  (q : ∀ g, (∀ e o, e ≠ z → e ≠ TO → e ∉ is → s.heap.get? e = some o → g.get? e = some o) → Q none { s with heap := g }) : wpAny (model prog w) A (pyNext (.ref z)) Q E s := by
 have hT : s.TypeIs (.ref z) "zip" := ⟨_, D.zip, rfl⟩
 have nod := D.nod
 rw [List.nodup_cons, List.nodup_cons, List.nodup_cons] at nod
 obtain ⟨nz, nT, nO, ni⟩ := nod
 have zO : z ≠ TO := fun q => nz (by rw [q]; simp)
 have few := D.few
 have len := D.len
 have fin : ∀ g x, (∀ e o, e ≠ z → e ≠ TO → e ∉ is → s.heap.get? e = some o → g.get? e = some o) → (∃ o, g.get? x = some o ∧ o.cls = .type "StopIteration") →
   wpAny (model prog w) A (do if ← isInstance (.ref x) (.type "StopIteration") then pure none else throw (.ref x)) Q E { s with heap := g } := fun g x k ⟨o, ho, hc⟩ => by
  refine wpAny_bind (wpAny_isInstance (T := "StopIteration") (b := true) ⟨o, ho, hc⟩ isSubtype_stop ?_)
  exact wpAny_pure (q g k)
 have ml : m < cs.length := (List.getElem?_eq_some_iff.mp hm).1
 unfold pyNext
 refine wpAny_bind (wpAny_attempt (wpAny_callSpecial?_slot (name := Str.ofString "__next__") hT F.slot_zip_next (wpAny_call_entry F.slot_zip_next hT F.entry_zip_next ?_ (F.args_zip_next_1 _))))
 show wpAny _ _ (field (.ref z) 2 >>= _) _ _ s
 refine wpAny_bind (wpAny_field D.zip rfl (x := .bool false) (by rfl) ?_)
 show wpAny _ _ (field (.ref z) 3 >>= _) _ _ s
 refine wpAny_bind (wpAny_field D.zip rfl (x := .ref TI) (by rfl) ?_)
 refine wpAny_bind (wpAny_seqItems D.ti rfl ?_)
 dsimp only
 rw [if_neg (by intro y; rw [Array.isEmpty_iff_size_eq_zero, List.size_toArray, List.length_map, len] at y; have := D.pos; omega)]
 refine wpAny_bind ?_
 unfold Builtin.SmallTypes.ownedTupleIsFree
 refine wpAny_bind (wpAny_field D.zip rfl (x := .none) (by rfl) (wpAny_pure ?_))
 simp only [if_true]
 refine wpAny_bind (wpAny_rule ?_)
 refine wpAny_bind (wpAny_field D.zip rfl (x := .ref TO) (by rfl) ?_)
 refine wpAny_bind (wpAny_setField_rec D.zip (by simp) fun g1 z1 s1 => ?_)
 have z1 : IsZip g1 z TI TO .ellipsis := z1
 refine wpAny_bind ?_
 refine wp_forIn _ (fun j b s' => b = _ ∧ j ≤ m ∧ ∃ g, s' = { s with heap := g } ∧ ZIn s.heap g z TI TO cs is k j vs old) _ _ ⟨rfl, Nat.zero_le _, g1, rfl, ?_⟩ ?_ ?_
 ·refine ⟨s1.1, z1, s1.extBut _ _ zO.symm D.to, fun n c i hc hi => ?_, fun e o e1 _ _ h => s1.extBut _ _ e1 h⟩
  rw [if_neg (by omega)]
  exact (D.its n c i hc hi).ext fun o h => s1.extBut _ _ (fun y => nz (by rw [← y]; simp [List.mem_of_getElem? hi])) h
 ·rintro j a b s' ha ⟨rfl, jm, g, rfl, Z⟩
  rw [List.getElem?_zipIdx] at ha
  obtain ⟨x, hx, rfl⟩ := Option.map_eq_some_iff.mp ha
  have hx : (is.map Value.ref)[j]? = some x := by simpa using hx
  rw [List.getElem?_map] at hx
  obtain ⟨i, hi, rfl⟩ := Option.map_eq_some_iff.mp hx
  have jl : j < cs.length := by rw [← len]; exact (List.getElem?_eq_some_iff.mp hi).1
  have hc : cs[j]? = some cs[j] := gE jl
  obtain ⟨o1, o2, o3⟩ := D.off _ (List.getElem_mem jl)
  have it := Z.its j _ i hc hi
  rw [if_neg (by omega)] at it
  have iO : TO ≠ i := fun q => nO (by rw [q]; exact List.mem_of_getElem? hi)
  have iz : z ≠ i := fun q => nz (by rw [q]; simp [List.mem_of_getElem? hi])
  dsimp only
  refine wpAny_bind (wpAny_onRaise ?_)
  show wpAny _ _ (Builtin.SmallTypes.nextOf (.ref i) >>= _) _ _ _
  by_cases e : j = m
  ·subst e
   rw [hc] at hm
   cases hm
   refine wpAny_bind (nextS_end hh it (hxm.ext fun o h => Z.ext _ o o1 o2 o3 h) hem fun g2 x s2 hx2 => ?_)
   obtain ⟨oe, e1, e2⟩ := hx2
   have z2 : IsZip g2 z TI TO .ellipsis := s2 _ _ iz Z.zip
   have xz : x ≠ z := fun r => by subst r; rw [z2] at e1; cases e1; simp at e2
   exact wpAny_setField_rec z2 (by simp) fun g3 _ s3 => fin g3 x (fun e o c1 c2 c3 h => s3.extBut _ _ c1 (s2 _ _ (fun y => c3 (by rw [y]; exact List.mem_of_getElem? hi)) (Z.ext e o c1 c2 c3 h))) ⟨oe, s3.extBut _ _ xz e1, e2⟩
  ·obtain ⟨xs, v, hq, hxv, hvv⟩ := hv j _ hc (by omega)
   refine wpAny_bind (nextS_item it (hq.ext fun o h => Z.ext _ o o1 o2 o3 h) hxv fun g2 n2 s2 => wpAny_pure ?_)
   have r2 : IsRow g2 TO (vs.take j ++ old.drop j) := s2.extBut _ _ iO Z.row
   refine wpAny_bind (wpAny_seqItems r2 rfl ?_)
   refine wpAny_bind (updRow (x := v) (k := 0 + j) r2 (by rw [List.length_append, List.length_take, List.length_drop]; have := D.lo; omega) fun g3 r3 s3 => ?_)
   rw [Nat.zero_add] at r3
   refine wpAny_bind (wpAny_letGo (wpAny_pure ⟨_, rfl, rfl, by omega, g3, rfl, Z.step D hi hc hvv lv n2 s2 r3 s3⟩))
 ·rintro b s' ⟨rfl, jm, g5, rfl, Z⟩
  have ll : ((is.map Value.ref).toArray.toList.zipIdx).length = cs.length := by simp [len]
  rw [ll] at jm
  omega
end
end L2
namespace L2
open PySem PySem.Spec PyProof.Rows
theorem choose_list {α : Type} {P : Nat → α → Prop} : ∀ (k : Nat), (∀ n, n < k → ∃ u, P n u) → ∃ us : List α, us.length = k ∧ ∀ (n : Nat) u, us[n]? = some u → P n u
 | 0, _ => ⟨[], rfl, fun n u h => by simp at h⟩
 | k + 1, h => by
  obtain ⟨us, hl, hu⟩ := choose_list k fun n hn => h n (by omega)
  obtain ⟨u, pu⟩ := h k (by omega)
  refine ⟨us ++ [u], by rw [List.length_append, hl]; rfl, fun n v hv => ?_⟩
  by_cases e : n < us.length
  ·rw [List.getElem?_append_left e] at hv
   exact hu n v hv
  ·rw [List.getElem?_append_right (by omega)] at hv
   have hn : n = us.length := by
    have := (List.getElem?_eq_some_iff.mp hv).1
    simp at this
    omega
   subst hn
   rw [Nat.sub_self] at hv
   cases hv
   rw [hl]; exact pu
theorem vals_of : ∀ {vs : List V} {us : List Value}, vs.length = us.length → (∀ (n : Nat) v u, vs[n]? = some v → us[n]? = some u → RelV v u) → Vals vs us
 | [], [], _, _ => .nil
 | v :: vs, u :: us, hl, h => .cons (h 0 v u rfl rfl) (vals_of (by simpa using hl) fun n v' u' a b => h (n + 1) v' u' a b)
 | [], _ :: _, hl, _ => by simp at hl
 | _ :: _, [], hl, _ => by simp at hl
def HSq (H : Hp) (c : Sq) (xs : List V) : Prop := match c.l with | true => H c.a = some (.lst xs) | false => H c.a = some (.tup xs)
theorem HSq.inj {H : Hp} {c : Sq} {xs ys : List V} (a : HSq H c xs) (b : HSq H c ys) : xs = ys := by
 obtain ⟨l, q⟩ := c
 cases l with
 | true => have a : H q = some (.lst xs) := a; have b : H q = some (.lst ys) := b; rw [a] at b; cases b; rfl
 | false => have a : H q = some (.tup xs) := a; have b : H q = some (.tup ys) := b; rw [a] at b; cases b; rfl
theorem HSq.has {H : Hp} {c : Sq} {xs : List V} (a : HSq H c xs) : ∃ o, H c.a = some o := by
 obtain ⟨l, q⟩ := c
 cases l with
 | true => exact ⟨_, a⟩
 | false => exact ⟨_, a⟩
theorem HSq.same {H H' : Hp} {c : Sq} {xs : List V} (a : HSq H c xs) (e : Same H H') : HSq H' c xs := by
 obtain ⟨l, q⟩ := c
 cases l with
 | true => exact e _ _ a
 | false => exact e _ _ a
theorem HSq.at {X : Cx} {pins : List (Addr × Obj)} {σ : St} {H : Hp} {s : Shared} {c : Sq} {xs : List V} (I : Inv X pins σ H s) (h : HSq H c xs) : ∃ its, Vals xs its ∧ SqAt s.heap c its.toArray := by
 obtain ⟨l, q⟩ := c
 cases l with
 | true =>
  obtain ⟨its, r, p, _⟩ := I.list (SqL.of (K := X.K) (show H q = some (.lst xs) from h))
  exact ⟨its, r, p.isList⟩
 | false =>
  obtain ⟨its, r, p, _⟩ := I.tuple (SqT.of (K := X.K) (show H q = some (.tup xs) from h))
  exact ⟨its, r, p⟩
def Itq (cs : List Sq) : It :=
 ⟨fun i H => ∃ vs : List V, vs.length = cs.length ∧ ∀ (n : Nat) c, cs[n]? = some c → ∃ xs x, HSq H c xs ∧ xs[i]? = some x ∧ vs[n]? = some x,
  fun i H v H' => ∃ p vs, H p = none ∧ v = .ref p ∧ H' = upd H p (.tup vs) ∧ vs.length = cs.length ∧ ∀ (n : Nat) c x xs, cs[n]? = some c → HSq H c xs → vs[n]? = some x → xs[i]? = some x,
  fun i H => ∃ m cm xm, cs[m]? = some cm ∧ HSq H cm xm ∧ xm.length ≤ i ∧ ∀ (n : Nat) c, cs[n]? = some c → n < m → ∃ xs x, HSq H c xs ∧ xs[i]? = some x⟩
section
theorem turn_zipS {P : Program} {w : World} {K : PySem.W.Frag} {es : List Expr} {k0} {pos : Pos} {z TI TO : Addr} {cs : List Sq} {is : List Addr} :
  Turn P w K (.Tuple es k0 pos) (Itq cs) (z :: TI :: TO :: is) z (fun i h => ∃ old, ZOk h z TI TO cs is i old) where
 mem := by simp
 obj := fun i h st c hc => by
  obtain ⟨old, D⟩ := st
  simp only [List.mem_cons] at hc
  rcases hc with rfl | rfl | rfl | hc
  ·exact ⟨_, D.zip, fun v z => by cases z⟩
  ·exact ⟨_, D.ti, fun v z => by cases z⟩
  ·exact ⟨_, D.to, fun v z => by cases z⟩
  ·obtain ⟨n, hn⟩ := List.getElem?_of_mem hc
   have hl : n < cs.length := by rw [← D.len]; exact (List.getElem?_eq_some_iff.mp hn).1
   exact (D.its n _ c (gE hl) hn).obj
 keep := fun i h h' st k => by
  obtain ⟨old, D⟩ := st
  exact ⟨old, D.len, D.few, D.pos, D.nod, k z (by simp) _ D.zip, k TI (by simp) _ D.ti, k TO (by simp) _ D.to, D.lo, fun n c i hc hi => (D.its n c i hc hi).ext fun o e => k i (by simp [List.mem_of_getElem? hi]) o e, D.off⟩
 item := by
  intro X hP hw hK hc i pins s σ H E I hf st hg
  subst hP hw hK
  obtain ⟨old, D⟩ := st
  obtain ⟨vs, lv, hv⟩ := hg
  have nz : ∀ e ∈ z :: TI :: TO :: is, H e = none := fun e he => (hf e he).1
  have hT : H s.heap.objs.size = none := I.fresh
  have ex : ∀ n, n < cs.length → ∃ u : Value, (∀ c, cs[n]? = some c → ∃ xs, SqAt s.heap c xs ∧ xs[i]? = some u) ∧ ∀ v, vs[n]? = some v → RelV v u := fun n hn => by
   obtain ⟨xs, x, h1, h2, h3⟩ := hv n _ (gE hn)
   obtain ⟨its, r, p⟩ := h1.at I
   obtain ⟨u, hu, ru⟩ := r.get h2
   refine ⟨u, fun c hc => ?_, fun v hv' => ?_⟩
   ·rw [gE hn] at hc
    cases hc
    exact ⟨_, p, by simpa using hu⟩
   ·rw [h3] at hv'
    cases hv'
    exact ru
  obtain ⟨us, lu, hu⟩ := choose_list cs.length ex
  have hrel : Vals vs us := vals_of (by omega) fun n v u a b => (hu n u b).2 v a
  refine zipS_go D (vs := us) (fun n c hc => ?_) lu fun g z1 to1 m1 tp sz kk => ⟨_, rfl, ?_⟩
  ·have hn : n < us.length := by rw [lu]; exact (List.getElem?_eq_some_iff.mp hc).1
   obtain ⟨xs, a, b⟩ := (hu n _ (gE hn)).1 c hc
   exact ⟨xs, us[n], a, b, gE hn⟩
  refine wpAny_letOwnedTupleGo_zip z1 fun g2 z2 s2 => ?_
  have s2 : Heap.SameBut z g g2 := s2
  have k2 : ∀ e o, e ∉ z :: TO :: is → s.heap.get? e = some o → g2.get? e = some o := fun e o hn h => by
   simp only [List.mem_cons, not_or] at hn
   exact s2.extBut _ _ hn.1 (kk e o hn.1 hn.2.1 hn.2.2 h)
  have zlt : z < s.heap.objs.size := Heap.lt_size D.zip
  have tp2 : IsRow g2 s.heap.objs.size us := s2.extBut _ _ (Nat.ne_of_gt zlt) tp
  have sub : ∀ e ∈ z :: TO :: is, e ∈ z :: TI :: TO :: is := fun e he => by
   simp only [List.mem_cons] at he ⊢
   rcases he with rfl | rfl | he <;> simp [*]
  have trk : ∀ e o, H e = some o → e ∉ z :: TO :: is := fun e o he hm => by rw [nz e (sub e hm)] at he; cases he
  have J : Inv X pins σ (upd H s.heap.objs.size (.tup vs)) { s with heap := g2 } := by
   refine I.turnAll (ch := z :: TO :: is) (fun e he => hf e (sub e he)) k2 (fun e o h => by rw [upd_ne (ne_of_none h hT)]; exact h) (fun e o h n => by rw [upd_ne (Nat.ne_of_lt (Heap.lt_size h))]; exact n) fun e o h => ?_
   by_cases q : e = s.heap.objs.size
   ·subst q
    rw [upd_same] at h
    cases h
    exact ⟨by rw [lv]; exact Nat.le_trans D.few (by decide), us, hrel, _, tp2, rfl, rfl, _, rfl⟩
   ·rw [upd_ne q] at h
    refine (I.hok e o h).stay (fun c v hc' q' => k2 c v (by
     rcases hc' with z' | z'
     ·rw [z']; exact trk e o h
     ·exact trk c _ z') q') (fun c q' => by rw [upd_ne (ne_of_none q' hT)]; exact q') fun c xs q' => by rw [upd_ne (ne_of_none q' hT)]; exact q'
  have nod := D.nod
  rw [List.nodup_cons, List.nodup_cons, List.nodup_cons] at nod
  obtain ⟨nz', nT, nO, ni⟩ := nod
  refine ⟨.ref s.heap.objs.size, _, J, rfl, ⟨_, vs, hT, rfl, rfl, lv, fun n c x xs hc hq hx => ?_⟩, ⟨us, D.len, D.few, D.pos, D.nod, z2, ?_, s2.extBut _ _ (fun y => nz' (by rw [← y]; simp)) to1, lu, fun n c j hc hj => ?_, D.off⟩, fun e he => ?_⟩
  ·obtain ⟨ys, y, h1, h2, h3⟩ := hv n c hc
   rw [h1.inj hq] at h2
   rw [h3] at hx
   cases hx
   exact h2
  ·refine k2 _ _ (fun y => ?_) D.ti
   rcases List.mem_cons.mp y with y | y
   ·exact nz' (by rw [← y]; simp)
   ·exact nT y
  ·exact (m1 n c j hc hj).ext fun o e => s2.extBut _ _ (fun y => nz' (by rw [← y]; simp [List.mem_of_getElem? hj])) e
  ·have hlt : e < s.heap.objs.size := by
    simp only [List.mem_cons] at he
    rcases he with rfl | rfl | rfl | he
    ·exact Heap.lt_size D.zip
    ·exact Heap.lt_size D.ti
    ·exact Heap.lt_size D.to
    ·obtain ⟨n, hn⟩ := List.getElem?_of_mem he
     have hl : n < cs.length := by rw [← D.len]; exact (List.getElem?_eq_some_iff.mp hn).1
     obtain ⟨o, ho, _⟩ := (D.its n _ e (gE hl) hn).obj
     exact Heap.lt_size ho
   rw [upd_ne (Nat.ne_of_lt hlt)]
   exact nz e he
 done := by
  intro X hP hw hK hc i pins s σ H E I hf st hg
  subst hP hw hK
  obtain ⟨old, D⟩ := st
  obtain ⟨m, cm, xm, hm, hxm, hi, hv⟩ := hg
  have nz : ∀ e ∈ z :: TI :: TO :: is, H e = none := fun e he => (hf e he).1
  have ex : ∀ n, n < cs.length → ∃ u : Value, ∀ c, cs[n]? = some c → n < m → ∃ xs, SqAt s.heap c xs ∧ xs[i]? = some u := fun n hn => by
   by_cases e : n < m
   ·obtain ⟨xs, x, h1, h2⟩ := hv n _ (gE hn) e
    obtain ⟨its, r, p⟩ := h1.at I
    obtain ⟨u, hu, ru⟩ := r.get h2
    refine ⟨u, fun c hc _ => ?_⟩
    rw [gE hn] at hc
    cases hc
    exact ⟨_, p, by simpa using hu⟩
   ·exact ⟨.none, fun c _ z => absurd z e⟩
  obtain ⟨us, lu, hu⟩ := choose_list cs.length ex
  obtain ⟨its, r, p⟩ := hxm.at I
  have hl := r.length
  refine zipS_stop (I.ok.hd hc) D (vs := us) (m := m) (fun n c hc hn => ?_) lu hm p (by simp; omega) fun g kk => ⟨rfl, ?_⟩
  ·have hn' : n < us.length := by rw [lu]; exact (List.getElem?_eq_some_iff.mp hc).1
   obtain ⟨xs, a, b⟩ := hu n _ (gE hn') c hc hn
   exact ⟨xs, us[n], a, b, gE hn'⟩
  have sub : ∀ e ∈ z :: TO :: is, e ∈ z :: TI :: TO :: is := fun e he => by
   simp only [List.mem_cons] at he ⊢
   rcases he with rfl | rfl | he <;> simp [*]
  have k2 : ∀ e o, e ∉ z :: TO :: is → s.heap.get? e = some o → g.get? e = some o := fun e o hn h => by
   simp only [List.mem_cons, not_or] at hn
   exact kk e o hn.1 hn.2.1 hn.2.2 h
  have trk : ∀ e o, H e = some o → e ∉ z :: TO :: is := fun e o he hm => by rw [nz e (sub e hm)] at he; cases he
  refine I.turnAll (ch := z :: TO :: is) (fun e he => hf e (sub e he)) k2 (fun _ _ h => h) (fun _ _ _ n => n) fun e o h => ?_
  exact (I.hok e o h).stay (fun c v hc' q' => k2 c v (by
   rcases hc' with z' | z'
   ·rw [z']; exact trk e o h
   ·exact trk c _ z') q') (fun _ q' => q') fun _ _ q' => q'
 self := fun _ _ _ _ _ st h => let ⟨_, D⟩ := st; wpAny_pyIter_zip D.zip h
end
structure ZNew (h g : Heap) (cs : List Sq) : Prop where
 zip : IsZip g (h.objs.size + cs.length + 2) (h.objs.size + cs.length) (h.objs.size + cs.length + 1) .none
 ti : IsRow g (h.objs.size + cs.length) (((List.range cs.length).map fun j => h.objs.size + j).map Value.ref)
 to : IsRow g (h.objs.size + cs.length + 1) (List.replicate cs.length .none)
 its : ∀ (n : Nat) c, cs[n]? = some c → ItAt g c (h.objs.size + n) 0
 ext : ∀ b o, h.get? b = some o → g.get? b = some o
theorem newClass_zip (vs : List Value) : Builtin.SmallTypes.newClass "zip" ⟨.type "zip" :: vs, []⟩ = pure (.type "zip", vs) := by
 unfold Builtin.SmallTypes.newClass
 simp only [isType, sub_zip, pure_bind, Bool.not_true, Bool.false_eq_true, if_false]
theorem zipS_new (cs : List Sq) (few : cs.length ≤ 8) :
  Meets (Builtin.«zip.__new__» ⟨.type "zip" :: cs.map fun c => Value.ref c.a, []⟩) (fun _ R s => (∀ c ∈ cs, ∃ xs, SqAt s.heap c xs) ∧ ∀ g, ZNew s.heap g cs → R (.ok (.ret (.ref (s.heap.objs.size + cs.length + 2)))) { s with heap := g }) :=
 .of_wp fun prog w A R s h => by
  obtain ⟨h1, h⟩ := h
  unfold Builtin.«zip.__new__»
  refine wpAny_bind (wpAny_of_eq (newClass_zip _) ?_)
  show wpAny _ _ (Builtin.SmallTypes.iterAll (cs.map fun c => Value.ref c.a) >>= _) _ _ _
  refine wpAny_bind ?_
  unfold Builtin.SmallTypes.iterAll
  refine wpAny_bind (wp_forIn _ (fun j its s' => ∃ g, s' = { s with heap := g } ∧ g.objs.size = s.heap.objs.size + j ∧ its = ((List.range j).map fun i => Value.ref (s.heap.objs.size + i)).toArray ∧ (∀ (n : Nat) c, n < j → cs[n]? = some c → ItAt g c (s.heap.objs.size + n) 0) ∧ ∀ b o, s.heap.get? b = some o → g.get? b = some o) _ _ ⟨s.heap, rfl, rfl, rfl, fun n c hn => absurd hn (by omega), fun _ _ e => e⟩ ?_ ?_)
  ·rintro j a its s' ha ⟨g, rfl, sz, rfl, hit, ext⟩
   rw [List.getElem?_map] at ha
   obtain ⟨c, hc, rfl⟩ := Option.map_eq_some_iff.mp ha
   obtain ⟨xs, hx⟩ := h1 c (List.mem_of_getElem? hc)
   refine wpAny_bind (wpAny_holding (iterS (c := c) (xs := xs) (hx.ext fun o e => ext _ o e) fun g2 i2 z2 e2 => ?_))
   refine wpAny_pure ⟨_, rfl, g2, rfl, ?_, ?_, fun n c' hn hc' => ?_, fun b o e => e2 b o (ext b o e)⟩
   ·show g2.objs.size = _
    rw [z2]; show g.objs.size + 1 = _; rw [sz]; omega
   ·show Array.push _ (Value.ref g.objs.size) = _
    rw [sz, List.range_succ, List.map_append]; simp
   ·by_cases e : n = j
    ·subst e
     rw [hc] at hc'
     cases hc'
     have i2 : ItAt g2 c g.objs.size 0 := i2
     rw [sz] at i2
     exact i2
    ·exact (hit n c' (by omega) hc').ext fun o q => e2 _ o q
  ·rintro its s' ⟨g, rfl, sz, rfl, hit, ext⟩
   have ll : (cs.map fun c => Value.ref c.a).length = cs.length := List.length_map ..
   rw [ll] at sz hit ⊢
   refine wpAny_pure ?_
   dsimp only
   have n8 : ((List.range cs.length).map fun i => Value.ref (s.heap.objs.size + i)).length ≤ sizeLine := by
    rw [List.length_map, List.length_range]; exact Nat.le_trans few (by decide)
   refine wpAny_bind (wpAny_newTuple ?_ (by simpa using n8))
   refine wpAny_bind (wpAny_newTuple ?_ (by simpa using n8))
   refine wpAny_bind ?_
   unfold Builtin.SmallTypes.newRecord
   refine wpAny_newObj_type (wpAny_pure ⟨_, rfl, ?_⟩) (by show 5 ≤ sizeLine + 2; decide)
   have e1 : (g.push { cls := .type "tuple", data := .seq ((List.range cs.length).map fun i => Value.ref (s.heap.objs.size + i)).toArray }).objs.size = s.heap.objs.size + cs.length + 1 := by rw [Heap.size_push, sz]
   have e2 : ((g.push { cls := .type "tuple", data := .seq ((List.range cs.length).map fun i => Value.ref (s.heap.objs.size + i)).toArray }).push { cls := .type "tuple", data := .seq ((((List.range cs.length).map fun i => Value.ref (s.heap.objs.size + i)).toArray.toList.map fun _ => Value.none)).toArray }).objs.size = s.heap.objs.size + cs.length + 2 := by rw [Heap.size_push, e1]
   have key := h (((g.push { cls := .type "tuple", data := .seq ((List.range cs.length).map fun i => Value.ref (s.heap.objs.size + i)).toArray }).push { cls := .type "tuple", data := .seq ((((List.range cs.length).map fun i => Value.ref (s.heap.objs.size + i)).toArray.toList.map fun _ => Value.none)).toArray }).push { cls := .type "zip", data := .fields #[.none, .bool false, .bool false, .ref (s.heap.objs.size + cs.length), .ref (s.heap.objs.size + cs.length + 1)] })
    ⟨by rw [← e2]; exact Heap.get?_push_size _ rfl, ?_, ?_, fun n c hc => (hit n c (List.getElem?_eq_some_iff.mp hc).1 hc).ext fun o q => Heap.get?_push_of_some _ (Heap.get?_push_of_some _ (Heap.get?_push_of_some _ q)), fun b o q => Heap.get?_push_of_some _ (Heap.get?_push_of_some _ (Heap.get?_push_of_some _ (ext b o q)))⟩
   ·rw [← e2] at key
    have e1' : (s.heap.objs.size + cs.length : Nat) = g.objs.size := sz.symm
    rw [← e1, e1'] at key
    exact key
   ·have em : (((List.range cs.length).map fun j => s.heap.objs.size + j).map Value.ref) = ((List.range cs.length).map fun i => Value.ref (s.heap.objs.size + i)) := by rw [List.map_map]; rfl
    show Heap.get? _ _ = _
    rw [em, ← sz]
    exact Heap.get?_push_of_some _ (Heap.get?_push_of_some _ (Heap.get?_push_size _ rfl))
   ·rw [← e1]
    have er : (((List.range cs.length).map fun i => Value.ref (s.heap.objs.size + i)).toArray.toList.map fun _ => Value.none) = List.replicate cs.length Value.none := by
     rw [List.eq_replicate_iff]
     exact ⟨by simp, fun x hx => by obtain ⟨_, _, rfl⟩ := List.mem_map.mp hx; rfl⟩
    rw [er]
    exact Heap.get?_push_of_some _ (Heap.get?_push_size _ rfl)
theorem zip_args3 (a b c d : Value) : argsOk "object.__init__" ⟨[a, b, c, d], []⟩ := by
 unfold argsOk
 rw [signature?_of (id := "object.__init__") (n := ['_', '_', 't', 'i', 'n', 'i', '_', '_']) (o := ['t', 'c', 'e', 'j', 'b', 'o']) (by kernel_rfl) F.owner_object]
 kernel_rfl
theorem zip_type3 (a b c : Value) : checkTypeCall "zip" ⟨[a, b, c], []⟩ = pure () := by kernel_rfl
theorem zip_new3 (a b c : Value) : checkBuiltinCall "zip.__new__" ⟨[.type "zip", a, b, c], []⟩ = pure () := by kernel_rfl
section
variable {X : Cx}
theorem zip_walk {pins : List (Addr × Obj)} {σ : St} {H1 : Hp} {s1 : Shared} {es : List Expr} {k0} {pt : Pos} {R : It → Hp → Prop} {E : Value → Shared → Prop} {cs : List Sq} (I1 : Inv X pins σ H1 s1) (few : cs.length ≤ 8) (pos : 0 < cs.length) (hq : ∀ c ∈ cs, ∃ xs, HSq H1 c xs) (q : R (Itq cs) H1) {g : Heap} (Z : ZNew s1.heap g cs) :
  wpAny (model X.prog X.w) X.A (pyIter (.ref (s1.heap.objs.size + cs.length + 2))) (PIE X pins σ (.Tuple es k0 pt) R) E { s1 with heap := g } := by
 have small : ∀ c ∈ cs, c.a < s1.heap.objs.size := fun c hc => by
  obtain ⟨xs, hx⟩ := hq c hc
  obtain ⟨o, ho⟩ := hx.has
  exact Nat.lt_of_not_le fun hge => by rw [I1.hok.fresh hge] at ho; cases ho
 refine wpAny_pyIter_zip Z.zip ⟨_, (s1.heap.objs.size + cs.length + 2) :: (s1.heap.objs.size + cs.length) :: (s1.heap.objs.size + cs.length + 1) :: ((List.range cs.length).map fun j => s1.heap.objs.size + j), _, Itq cs, H1, rfl, I1.kept (t' := s1.toks) Z.ext, turn_zipS, ⟨_, ?_, few, pos, ?_, Z.zip, Z.ti, Z.to, by rw [List.length_replicate], fun n c i hc hi => ?_, fun c hc => ?_⟩, fun e he => ?_, q⟩
 ·rw [List.length_map, List.length_range]
 ·have nd : ((List.range cs.length).map fun j => s1.heap.objs.size + j).Nodup := by
   rw [List.nodup_iff_pairwise_ne, List.pairwise_map]
   exact (List.nodup_iff_pairwise_ne.mp List.nodup_range).imp fun h e => h (by omega)
  have out : ∀ x, s1.heap.objs.size + cs.length ≤ x → x ∉ ((List.range cs.length).map fun j => s1.heap.objs.size + j) := fun x hx hm => by
   obtain ⟨j, hj, rfl⟩ := List.mem_map.mp hm
   have := List.mem_range.mp hj
   omega
  rw [List.nodup_cons, List.nodup_cons, List.nodup_cons]
  refine ⟨fun h => ?_, fun h => ?_, fun h => out _ (by show @LE.le Nat _ _ _; omega) h, nd⟩
  ·rcases List.mem_cons.mp h with h | h
   ·have h : @Eq Nat _ _ := h
    omega
   ·rcases List.mem_cons.mp h with h | h
    ·have h : @Eq Nat _ _ := h
     omega
    ·exact out _ (by show @LE.le Nat _ _ _; omega) h
  ·rcases List.mem_cons.mp h with h | h
   ·have h : @Eq Nat _ _ := h
    omega
   ·exact out _ (by show @LE.le Nat _ _ _; omega) h
 ·rw [List.getElem?_map, List.getElem?_range (List.getElem?_eq_some_iff.mp hc).1] at hi
  cases hi
  exact Z.its n c hc
 ·have := small c hc
  have this : @LT.lt Nat _ c.a s1.heap.objs.size := this
  refine ⟨by show @Ne Nat _ _; omega, by show @Ne Nat _ _; omega, fun hm => ?_⟩
  obtain ⟨j, hj, e⟩ := List.mem_map.mp hm
  have e : @Eq Nat _ _ := e
  omega
 ·have hge : s1.heap.objs.size ≤ e := by
   simp only [List.mem_cons] at he
   rcases he with rfl | rfl | rfl | he
   ·show @LE.le Nat _ _ _; omega
   ·show @LE.le Nat _ _ _; omega
   ·show @LE.le Nat _ _ _; omega
   ·obtain ⟨j, hj, rfl⟩ := List.mem_map.mp he
    show @LE.le Nat _ _ _; omega
  exact I1.fpOk hge (I1.hok.fresh hge)
def iZip2 (ta : TA) : TI := fun σ H R => ta σ H fun vs H1 => ∃ c1 c2 xs ys, vs = [.ref c1.a, .ref c2.a] ∧ HSq H1 c1 xs ∧ HSq H1 c2 ys ∧ R (Itq [c1, c2]) H1
theorem pi_zip2 {ea eb : Expr} {ta : TA} {p pos : Pos} {es : List Expr} {k0} {pt : Pos} (hg : Gl X "zip") (hm : X.mg "zip" = none) (ha : PA X [ea, eb] ta) (hs : starEach [ea, eb] X.env = [(false, eval ea X.env), (false, eval eb X.env)] := by rfl) (hs2 : starEach [eb] X.env = [(false, eval eb X.env)] := by rfl) :
  PI X (.Tuple es k0 pt) (.Call (.Name "zip" p) [ea, eb] [] pos) (iZip2 ta) := by
 intro pins s σ H R I h
 refine Call_ (ld_blt I hg hm boot_zip (PyProof.Rows.callWith_type1 (thn (ha pos pins s σ H _ I h) fun us s1 ⟨vs, H1, I1, r1, q1⟩ => ?_) (by rw [hs, hs2]) (by rw [hs2]; rfl)))
 obtain ⟨c1, c2, xs, ys, e, h1, h2, q⟩ := q1
 subst e
 obtain ⟨u1, u2, rfl, r2, r3⟩ := vals2 r1
 cases (show u1 = Value.ref c1.a from r2)
 cases (show u2 = Value.ref c2.a from r3)
 obtain ⟨_, _, p1⟩ := h1.at I1
 obtain ⟨_, _, p2⟩ := h2.at I1
 refine callType_new F.called_zip (by decide) (F.typeCall_zip_2 _ _) (F.newCall_zip_2 _ _) (fun obj => F.args_object_init_3 obj _ _) F.entry_zip_new (zipS_new [c1, c2] (by show 2 ≤ 8; decide)) ⟨fun c hc => ?_, fun g Z => ⟨⟨_, Z.zip, rfl⟩, ?_⟩⟩
 ·simp only [List.mem_cons, List.not_mem_nil, or_false] at hc
  rcases hc with rfl | rfl
  ·exact ⟨_, p1⟩
  ·exact ⟨_, p2⟩
 ·refine zip_walk (cs := [c1, c2]) I1 (by show 2 ≤ 8; decide) (by show 0 < 2; decide) (fun c hc => ?_) q Z
  simp only [List.mem_cons, List.not_mem_nil, or_false] at hc
  rcases hc with rfl | rfl
  ·exact ⟨_, h1⟩
  ·exact ⟨_, h2⟩
theorem valsThree {x y z : V} {us : List Value} (h : Vals [x, y, z] us) : ∃ u1 u2 u3, us = [u1, u2, u3] ∧ RelV x u1 ∧ RelV y u2 ∧ RelV z u3 := by
 cases h with
 | cons h1 r1 => cases r1 with
  | cons h2 r2 => cases r2 with
   | cons h3 r3 => cases r3; exact ⟨_, _, _, rfl, h1, h2, h3⟩
def iZip3 (ta : TA) : TI := fun σ H R => ta σ H fun vs H1 => ∃ c1 c2 c3 xs ys zs, vs = [.ref c1.a, .ref c2.a, .ref c3.a] ∧ HSq H1 c1 xs ∧ HSq H1 c2 ys ∧ HSq H1 c3 zs ∧ R (Itq [c1, c2, c3]) H1
theorem pi_zip3 {ea eb ec : Expr} {ta : TA} {p pos : Pos} {es : List Expr} {k0} {pt : Pos} (hg : Gl X "zip") (hm : X.mg "zip" = none) (ha : PA X [ea, eb, ec] ta) (hs : starEach [ea, eb, ec] X.env = [(false, eval ea X.env), (false, eval eb X.env), (false, eval ec X.env)] := by rfl) (hs2 : starEach [eb, ec] X.env = [(false, eval eb X.env), (false, eval ec X.env)] := by rfl) :
  PI X (.Tuple es k0 pt) (.Call (.Name "zip" p) [ea, eb, ec] [] pos) (iZip3 ta) := by
 intro pins s σ H R I h
 refine Call_ (ld_blt I hg hm boot_zip (PyProof.Rows.callWith_type1 (thn (ha pos pins s σ H _ I h) fun us s1 ⟨vs, H1, I1, r1, q1⟩ => ?_) (by rw [hs, hs2]) (by rw [hs2]; rfl)))
 obtain ⟨c1, c2, c3, xs, ys, zs, e, h1, h2, h3, q⟩ := q1
 subst e
 obtain ⟨u1, u2, u3, rfl, r2, r3, r4⟩ := valsThree r1
 cases (show u1 = Value.ref c1.a from r2)
 cases (show u2 = Value.ref c2.a from r3)
 cases (show u3 = Value.ref c3.a from r4)
 obtain ⟨_, _, p1⟩ := h1.at I1
 obtain ⟨_, _, p2⟩ := h2.at I1
 obtain ⟨_, _, p3⟩ := h3.at I1
 refine callType_new F.called_zip (by decide) (zip_type3 _ _ _) (zip_new3 _ _ _) (fun obj => zip_args3 obj _ _ _) F.entry_zip_new (zipS_new [c1, c2, c3] (by show 3 ≤ 8; decide)) ⟨fun c hc => ?_, fun g Z => ⟨⟨_, Z.zip, rfl⟩, ?_⟩⟩
 ·simp only [List.mem_cons, List.not_mem_nil, or_false] at hc
  rcases hc with rfl | rfl | rfl
  ·exact ⟨_, p1⟩
  ·exact ⟨_, p2⟩
  ·exact ⟨_, p3⟩
 ·refine zip_walk (cs := [c1, c2, c3]) I1 (by show 3 ≤ 8; decide) (by show 0 < 3; decide) (fun c hc => ?_) q Z
  simp only [List.mem_cons, List.not_mem_nil, or_false] at hc
  rcases hc with rfl | rfl | rfl
  ·exact ⟨_, h1⟩
  ·exact ⟨_, h2⟩
  ·exact ⟨_, h3⟩
end
theorem for_zip2 {c1 c2 : Sq} {xs ys : List V} {g : TG} {tb : TS} {D : Ends} {σ : St} {H : Hp} (Pv : Nat → St → Hp → Prop) (h0 : Pv 0 σ H) (hl : ∀ i σ H, i ≤ xs.length → Pv i σ H → HSq H c1 xs ∧ HSq H c2 ys) (hxy : xs.length = ys.length)
  (hs : ∀ i x y p σ H, xs[i]? = some x → ys[i]? = some y → Pv i σ H → H p = none → g (.ref p) σ (upd H p (.tup [x, y])) fun σ2 H2 => tb { D with nx := Pv (i + 1), ct := Pv (i + 1), bk := D.nx } σ2 H2) (hd : ∀ σ H, Pv xs.length σ H → D.nx σ H) :
  ∃ W : Nat → Nat → St → Hp → Prop, (∃ m, W 0 m σ H) ∧ ∀ i m σ H, W i m σ H →
   ((Itq [c1, c2]).stop i H ∧ D.nx σ H) ∨ ((Itq [c1, c2]).go i H ∧ ∃ N : St → Hp → Prop, (∀ σ' H', N σ' H' → ∃ m', m' < m ∧ W (i + 1) m' σ' H') ∧ ∀ x H', (Itq [c1, c2]).yld i H x H' → g x σ H' fun σ2 H2 => tb { D with nx := N, ct := N, bk := D.nx } σ2 H2) := by
 refine ⟨fun i m σ H => i ≤ xs.length ∧ m = xs.length - i ∧ Pv i σ H, ⟨_, Nat.zero_le _, rfl, h0⟩, fun i m σ H ⟨hi, hm, hp⟩ => ?_⟩
 obtain ⟨qa, qb⟩ := hl i σ H hi hp
 by_cases e : i = xs.length
 ·subst e
  exact .inl ⟨⟨0, c1, xs, rfl, qa, Nat.le_refl _, fun n c _ hn => absurd hn (by omega)⟩, hd σ H hp⟩
 ·have hlt : i < xs.length := Nat.lt_of_le_of_ne hi e
  have hlt2 : i < ys.length := by omega
  refine .inr ⟨⟨[xs[i], ys[i]], rfl, fun n c hc => ?_⟩, Pv (i + 1), fun σ' H' hp' => ⟨xs.length - (i + 1), by omega, by omega, rfl, hp'⟩, fun v H3 hy => ?_⟩
  ·match n, hc with
   | 0, hc => cases hc; exact ⟨xs, xs[i], qa, gE hlt, rfl⟩
   | 1, hc => cases hc; exact ⟨ys, ys[i], qb, gE hlt2, rfl⟩
   | n + 2, hc => simp at hc
  ·obtain ⟨p, vs, hn, rfl, rfl, lv, hx⟩ := hy
   match vs, lv, hx with
   | [x, y], _, hx => exact hs i x y p σ H (hx 0 c1 x xs rfl qa rfl) (hx 1 c2 y ys rfl qb rfl) hp hn
theorem for_zip3 {c1 c2 c3 : Sq} {xs ys zs : List V} {g : TG} {tb : TS} {D : Ends} {σ : St} {H : Hp} (Pv : Nat → St → Hp → Prop) (h0 : Pv 0 σ H) (hl : ∀ i σ H, i ≤ xs.length → Pv i σ H → HSq H c1 xs ∧ HSq H c2 ys ∧ HSq H c3 zs) (hxy : xs.length = ys.length) (hxz : xs.length = zs.length)
  (hs : ∀ i x y z p σ H, xs[i]? = some x → ys[i]? = some y → zs[i]? = some z → Pv i σ H → H p = none → g (.ref p) σ (upd H p (.tup [x, y, z])) fun σ2 H2 => tb { D with nx := Pv (i + 1), ct := Pv (i + 1), bk := D.nx } σ2 H2) (hd : ∀ σ H, Pv xs.length σ H → D.nx σ H) :
  ∃ W : Nat → Nat → St → Hp → Prop, (∃ m, W 0 m σ H) ∧ ∀ i m σ H, W i m σ H →
   ((Itq [c1, c2, c3]).stop i H ∧ D.nx σ H) ∨ ((Itq [c1, c2, c3]).go i H ∧ ∃ N : St → Hp → Prop, (∀ σ' H', N σ' H' → ∃ m', m' < m ∧ W (i + 1) m' σ' H') ∧ ∀ x H', (Itq [c1, c2, c3]).yld i H x H' → g x σ H' fun σ2 H2 => tb { D with nx := N, ct := N, bk := D.nx } σ2 H2) := by
 refine ⟨fun i m σ H => i ≤ xs.length ∧ m = xs.length - i ∧ Pv i σ H, ⟨_, Nat.zero_le _, rfl, h0⟩, fun i m σ H ⟨hi, hm, hp⟩ => ?_⟩
 obtain ⟨qa, qb, qc⟩ := hl i σ H hi hp
 by_cases e : i = xs.length
 ·subst e
  exact .inl ⟨⟨0, c1, xs, rfl, qa, Nat.le_refl _, fun n c _ hn => absurd hn (by omega)⟩, hd σ H hp⟩
 ·have hlt : i < xs.length := Nat.lt_of_le_of_ne hi e
  have hlt2 : i < ys.length := by omega
  have hlt3 : i < zs.length := by omega
  refine .inr ⟨⟨[xs[i], ys[i], zs[i]], rfl, fun n c hc => ?_⟩, Pv (i + 1), fun σ' H' hp' => ⟨xs.length - (i + 1), by omega, by omega, rfl, hp'⟩, fun v H3 hy => ?_⟩
  ·match n, hc with
   | 0, hc => cases hc; exact ⟨xs, xs[i], qa, gE hlt, rfl⟩
   | 1, hc => cases hc; exact ⟨ys, ys[i], qb, gE hlt2, rfl⟩
   | 2, hc => cases hc; exact ⟨zs, zs[i], qc, gE hlt3, rfl⟩
   | n + 3, hc => simp at hc
  ·obtain ⟨p, vs, hn, rfl, rfl, lv, hx⟩ := hy
   match vs, lv, hx with
   | [x, y, z], _, hx => exact hs i x y z p σ H (hx 0 c1 x xs rfl qa rfl) (hx 1 c2 y ys rfl qb rfl) (hx 2 c3 z zs rfl qc rfl) hp hn
end L2
namespace L2
open PySem PySem.Spec PyProof.Rows
theorem ps_setCT {X : Cx} {iy : Nat} {y0 : Str} {py spos : Pos} {elt iter tg : Expr} {xs : List Str} {g : TG} {pos : Pos} {ifs : List Expr} {scope : Scope} {wi : TI} {te : TE} {tt : TT} {fr : List Str} {js : List Nat}
  (hN0 : X.N.Nodup) (hi0 : X.N[iy]? = some y0) (hx0 : Loc X.env.scope y0) (hc : X.calm = true) (hi : PI X tg iter wi)
  (hcell : ∀ y ∈ scope.names, y.2 ≠ .cell) (hkind : scope.kind = .function) (hnames : ∀ y ∈ scope.names, y.2 = .local → scope.names.lookup y.1 = some .local)
  (hfr : ∀ y ∈ scope.names, y.2 = .free → X.env.scope.names.lookup y.1 = some .cell) (hjs : js.map (fun j => X.N[j]?) = fr.map some) (hfv : ∀ y ∈ fr, scope.names.lookup y = some .free)
  (hg : ∀ cl C s' H' ex, PG (cxComp X scope cl C (xs ++ fr) s' H' ex) tg g)
  (hb : ∀ cl C s' H' ex, PE (cxComp X scope cl C (xs ++ fr) s' H' ex) elt te ∧ PTs (cxComp X scope cl C (xs ++ fr) s' H' ex) ifs tt)
  (hs : ∀ z, foldedSetIterable iter X.env z = pure z := by intro _; rfl) (hsw : swapsWith (.ListComp elt [⟨tg, iter, ifs, 0⟩] scope pos) (some (.Name y0 py)) spos.line X.env = pure true := by rfl)
  (hf0 : X.fn y0 = true ∨ X.env.scope.names.lookup y0 = some .local := by first | exact .inl rfl | exact .inr rfl | assumption) :
  PS X (.Assign [.Name y0 py] (.ListComp elt [⟨tg, iter, ifs, 0⟩] scope pos) spos) (tAsg (tCompT wi xs.length g js tt te) (gName iy)) :=
 ps_setCC hN0 hi0 hx0 hc hi hcell hkind hnames hfr hjs hfv hg hb (fun _ _ _ _ h => h) hs hsw hf0
end L2
namespace L2
open PySem PySem.Spec PyProof.Rows
section
variable {X : Cx}
end
end L2
namespace L2
open PySem PySem.Spec PyProof.Rows
end L2
namespace L2
open PySem PySem.Spec PyProof.Rows
theorem PE.cutV {X : Cx} {e : Expr} {t : TE} (h : PE X e t) : PE X e (fun σ H Q => ∃ N : VK, (∀ v H', N v H' → Q v H') ∧ t σ H N) := fun pins s σ H Q I ⟨N, i, q⟩ =>
 thn (h pins s σ H N I q) fun u s' ⟨v, H', I', rv, q'⟩ => ⟨v, H', I', rv, i _ _ q'⟩
theorem compT_zip2 {K : PySem.W.Frag} {c1 c2 : Sq} {xs ys : List V} {js : List Nat} {tt : TT} {te : TE} {σ : St} {H : Hp} {Q : VK} (Pv : Nat → List V → Hp → Prop) (h0 : Pv 0 [] H) (hl : ∀ i zs H, i ≤ xs.length → Pv i zs H → HSq H c1 xs ∧ HSq H c2 ys ∧ zs.length ≤ i) (hxy : xs.length = ys.length) (hz : xs.length ≤ sizeLine)
  (hs : ∀ i x y zs p H, xs[i]? = some x → ys[i]? = some y → Pv i zs H → H p = none → tt (some x :: some y :: blockSt σ js) (upd H p (.tup [x, y])) fun b H4 => if b = true then te (some x :: some y :: blockSt σ js) H4 fun y H5 => Pv (i + 1) (zs ++ [y]) H5 else Pv (i + 1) zs H4)
  (hd : ∀ zs H, Pv xs.length zs H → ∀ D, H D = none → Q (.ref D) (upd H D (.lst zs))) : CompWT 2 (gPair K) js tt te σ Q (Itq [c1, c2]) H := by
 refine ⟨fun i m zs H => i ≤ xs.length ∧ m = xs.length - i ∧ Pv i zs H, ⟨_, Nat.zero_le _, rfl, h0⟩, fun i m zs H2 ⟨hi, hm, hp⟩ => ?_⟩
 obtain ⟨qa, qb, hy⟩ := hl i zs H2 hi hp
 by_cases e : i = xs.length
 ·subst e
  exact .inl ⟨⟨0, c1, xs, rfl, qa, Nat.le_refl _, fun n c _ hn => absurd hn (by omega)⟩, hd zs H2 hp⟩
 ·have hlt : i < xs.length := Nat.lt_of_le_of_ne hi e
  have hlt2 : i < ys.length := by omega
  refine .inr ⟨⟨[xs[i], ys[i]], rfl, fun n c hc => ?_⟩, by omega, Pv (i + 1), fun ys' H' hp' => ⟨xs.length - (i + 1), by omega, by omega, rfl, hp'⟩, fun v H3 hy3 v0 hv0 => ?_⟩
  ·match n, hc with
   | 0, hc => cases hc; exact ⟨xs, xs[i], qa, gE hlt, rfl⟩
   | 1, hc => cases hc; exact ⟨ys, ys[i], qb, gE hlt2, rfl⟩
   | n + 2, hc => simp at hc
  ·obtain ⟨p, vs, hn, rfl, rfl, lv, hx⟩ := hy3
   match vs, lv, hx, v0, hv0 with
   | [x, y], _, hx, [v1, v2], _ => exact ⟨p, _, rfl, SqT.of upd_same, rfl, _, _, rfl, _, _, rfl, rfl, ⟨[some x, some y], rfl, rfl⟩, hs i x y zs p H2 (hx 0 c1 x xs rfl qa rfl) (hx 1 c2 y ys rfl qb rfl) hp hn⟩
end L2
namespace L2
open PySem PySem.Spec PyProof.Rows
theorem compT_lst {K : PySem.W.Frag} {a : Addr} {xs : List V} {js : List Nat} {tt : TT} {te : TE} {σ : St} {H : Hp} {Q : VK} (Pv : Nat → List V → Hp → Prop) (h0 : Pv 0 [] H) (hl : ∀ i ys H, i ≤ xs.length → Pv i ys H → SqL K H a xs ∧ ys.length ≤ i) (hz : xs.length ≤ sizeLine)
  (hs : ∀ i v ys H, xs[i]? = some v → Pv i ys H → ∃ q x y, v = .ref q ∧ H q = some (.tup [x, y]) ∧ tt (some x :: some y :: blockSt σ js) H fun b H4 => if b = true then te (some x :: some y :: blockSt σ js) H4 fun z H5 => Pv (i + 1) (ys ++ [z]) H5 else Pv (i + 1) ys H4)
  (hd : ∀ ys H, Pv xs.length ys H → ∀ D, H D = none → Q (.ref D) (upd H D (.lst ys))) : CompWT 2 (gPair K) js tt te σ Q (Itl K a) H := by
 refine ⟨fun i m ys H => i ≤ xs.length ∧ m = xs.length - i ∧ Pv i ys H, ⟨_, Nat.zero_le _, rfl, h0⟩, fun i m ys H2 z => ?_⟩
 obtain ⟨hi, hm, hp⟩ := z
 obtain ⟨hq, hy⟩ := hl i ys H2 hi hp
 by_cases e : i = xs.length
 ·subst e
  exact .inl ⟨⟨xs, hq, Nat.le_refl _⟩, hd ys H2 hp⟩
 ·have hlt : i < xs.length := Nat.lt_of_le_of_ne hi e
  refine .inr ⟨⟨xs, _, hq, gE hlt⟩, by omega, Pv (i + 1), fun ys' H' hp' => ⟨xs.length - (i + 1), by omega, by omega, rfl, hp'⟩, fun v H3 hy3 v0 hv0 => ?_⟩
  obtain ⟨e3, hx⟩ := hy3
  subst e3
  obtain ⟨q, x, y, rfl, hq2, k⟩ := hs i v ys H3 (hx xs hq) hp
  match v0, hv0 with
  | [v1, v2], _ => exact ⟨q, _, rfl, SqT.of hq2, rfl, _, _, rfl, _, _, rfl, rfl, ⟨[some x, some y], rfl, rfl⟩, k⟩
def leastI : List Int → Int
 | [] => 0
 | [a] => a
 | a :: b :: l => if a < leastI (b :: l) then a else leastI (b :: l)
theorem least_ok : ∀ (l : List Int), l ≠ [] → leastI l ∈ l ∧ ∀ a ∈ l, leastI l ≤ a
 | [], h => absurd rfl h
 | [a], _ => ⟨by simp [leastI], fun x hx => by rw [List.mem_singleton.mp hx]; exact Int.le_refl _⟩
 | a :: b :: l, _ => by
  obtain ⟨h1, h2⟩ := least_ok (b :: l) (by simp)
  show (if a < leastI (b :: l) then a else leastI (b :: l)) ∈ a :: b :: l ∧ ∀ x ∈ a :: b :: l, (if a < leastI (b :: l) then a else leastI (b :: l)) ≤ x
  split
  ·refine ⟨List.mem_cons_self .., fun x hx => ?_⟩
   rcases List.mem_cons.mp hx with rfl | hx
   ·exact Int.le_refl _
   ·have := h2 x hx; omega
  ·refine ⟨List.mem_cons_of_mem _ h1, fun x hx => ?_⟩
   rcases List.mem_cons.mp hx with rfl | hx
   ·omega
   ·exact h2 x hx
section
variable {X : Cx}
theorem call_min1 (hc : X.calm = true) : CallR X (.builtin "min") (fun xs H Q => ∃ (p : Addr) (ns : List Int), xs = [.ref p] ∧ SqL X.K H p (ns.map V.int) ∧ ns ≠ [] ∧ Q (.int (leastI ns)) H) := by
 intro pins s σ H xs us Q I r h
 obtain ⟨p, ns, rfl, hq, hne, q⟩ := h
 obtain ⟨u, rfl, ru⟩ := vals1 r
 cases (show u = Value.ref p from ru)
 obtain ⟨its, rv, pl, hz⟩ := I.list hq
 have hi := ints_are rv
 obtain ⟨ys, hx⟩ := hi.allInts.items
 have hl' : s.heap.IsList p (intItems ys) := hx ▸ pl.isList
 have e1 : ns = ys.toList.map (·.1) := by
  rw [← nums_intItems, ← hx]
  exact (show numsOf its.toArray.toList = ns from hi.numsOf).symm
 have hsz : 0 < ys.size := by
  have : 0 < ns.length := List.length_pos_iff.mpr hne
  rw [e1, List.length_map, Array.length_toList] at this
  exact this
 refine min_intList (I.ok.hd hc) hl' hsz fun v h' tk hv hk => ?_
 obtain ⟨t, rfl⟩ := intItems_at hv
 obtain ⟨b1, b2⟩ := argBest_lt (numAt ys) (ys.size - 1)
 obtain ⟨l1, l2⟩ := least_ok ns hne
 have m1 : numAt ys (argBest (fun i j => decide (numAt ys i < numAt ys j)) (ys.size - 1)) ∈ ns := by
  rw [e1, numAt_eq]
  exact getD_mem (by rw [List.length_map, Array.length_toList]; omega)
 have m2 : numAt ys (argBest (fun i j => decide (numAt ys i < numAt ys j)) (ys.size - 1)) = leastI ns := by
  refine Int.le_antisymm ?_ (l2 _ m1)
  have l3 : leastI ns ∈ ys.toList.map (·.1) := by rw [← e1]; exact l1
  obtain ⟨j, hj, e⟩ := mem_getD l3
  rw [List.length_map, Array.length_toList] at hj
  rw [← e, ← numAt_eq]
  exact b2 j (by omega)
 rw [m2]
 exact ⟨.int (leastI ns), H, I.kept (t' := tk) hk, ⟨t, rfl⟩, q⟩
end
end L2
namespace L2
open PySem PySem.W PyProof.Rows
def Gd {α : Type} (lt : Nat → Nat → Bool) (n : Nat) : KasT α → (α → Prop) → Prop
 | .ret a, P => P a
 | .ask i j k, P => i < n ∧ j < n ∧ Gd lt n (k (lt i j)) P
theorem Gd.mono {α : Type} {lt : Nat → Nat → Bool} {n : Nat} {P R : α → Prop} (h : ∀ a, P a → R a) : ∀ {t : KasT α}, Gd lt n t P → Gd lt n t R
 | .ret a, g => h a g
 | .ask _ _ _, g => ⟨g.1, g.2.1, Gd.mono h g.2.2⟩
theorem Gd.bind {α β : Type} {lt : Nat → Nat → Bool} {n : Nat} {f : α → KasT β} {P : β → Prop} : ∀ {t : KasT α}, Gd lt n t (fun a => Gd lt n (f a) P) → Gd lt n (t.bind f) P
 | .ret _, g => g
 | .ask _ _ _, g => ⟨g.1, g.2.1, Gd.bind g.2.2⟩
theorem Gd.wp {α : Type} {lt : Nat → Nat → Bool} {n : Nat} {P : α → Prop} {cmp : Nat → Nat → (Bool → Shared → Prop) → Shared → Prop} {Q : α → Shared → Prop} {s : Shared} (hc : ∀ i j C, i < n → j < n → C (lt i j) s → cmp i j C s) (hq : ∀ a, P a → Q a s) : ∀ {t : KasT α}, Gd lt n t P → t.kasWp cmp Q s
 | .ret a, g => hq a g
 | .ask i j k, g => hc i j _ g.1 g.2.1 (Gd.wp hc hq g.2.2)
structure Ord (lt : Nat → Nat → Bool) (n : Nat) : Prop where
 tot : ∀ i j, i < n → j < n → i ≠ j → lt i j = false → lt j i = true
 tr : ∀ i j k, lt i j = true → lt j k = true → lt i k = true
abbrev gA (p : Array Nat) (i : Nat) : Nat := p.getD i 0
abbrev Pm (n : Nat) (p : Array Nat) : Prop := p.toList.Perm (List.range n)
theorem gA_get {p : Array Nat} {i : Nat} : gA p i = p[i]?.getD 0 := by
 show p.getD i 0 = _
 rw [Array.getD_eq_getD_getElem?]
theorem Pm.size {n : Nat} {p : Array Nat} (h : Pm n p) : p.size = n := by
 have := h.length_eq
 rw [List.length_range, Array.length_toList] at this
 exact this
theorem Pm.lt {n : Nat} {p : Array Nat} (h : Pm n p) {i : Nat} (hi : i < n) : gA p i < n := by
 have hs : i < p.size := by rw [h.size]; exact hi
 have e : gA p i = p[i] := by rw [gA_get, Array.getElem?_eq_getElem hs]; rfl
 rw [e]
 have : p[i] ∈ p.toList := by simp
 exact List.mem_range.mp (h.mem_iff.mp this)
theorem Pm.ne {n : Nat} {p : Array Nat} (h : Pm n p) {i j : Nat} (hij : i < j) (hj : j < n) : gA p i ≠ gA p j := by
 have hd : p.toList.Nodup := h.nodup_iff.mpr List.nodup_range
 have si : i < p.toList.length := by rw [Array.length_toList, h.size]; omega
 have sj : j < p.toList.length := by rw [Array.length_toList, h.size]; omega
 have ei : gA p i = p.toList[i] := by rw [gA_get, Array.getElem?_eq_getElem (by rw [h.size]; omega)]; simp
 have ej : gA p j = p.toList[j] := by rw [gA_get, Array.getElem?_eq_getElem (by rw [h.size]; omega)]; simp
 rw [ei, ej]
 exact List.pairwise_iff_getElem.mp (List.nodup_iff_pairwise_ne.mp hd) i j si sj hij
theorem Pm.of {n : Nat} {p q : Array Nat} (h : Pm n p) (e : q.Perm p) : Pm n q := (Array.perm_iff_toList_perm.mp e).trans h
def SoA (lt : Nat → Nat → Bool) (p : Array Nat) (m : Nat) : Prop := ∀ i j, i < j → j < m → lt (gA p i) (gA p j) = true
def DeA (lt : Nat → Nat → Bool) (p : Array Nat) (m : Nat) : Prop := ∀ i j, i < j → j < m → lt (gA p j) (gA p i) = true
section
variable {lt : Nat → Nat → Bool} {n : Nat}
theorem SoA.more {p : Array Nat} {m : Nat} (O : Ord lt n) (h : SoA lt p m) (h1 : lt (gA p (m - 1)) (gA p m) = true) : SoA lt p (m + 1) := fun i j hij hj => by
 by_cases e : j < m
 ·exact h i j hij e
 ·have ej : j = m := by omega
  rw [ej]
  by_cases ei : i = m - 1
  ·rw [ei]; exact h1
  ·exact O.tr _ _ _ (h i (m - 1) (by omega) (by omega)) h1
theorem DeA.more {p : Array Nat} {m : Nat} (O : Ord lt n) (h : DeA lt p m) (h1 : lt (gA p m) (gA p (m - 1)) = true) : DeA lt p (m + 1) := fun i j hij hj => by
 by_cases e : j < m
 ·exact h i j hij e
 ·have ej : j = m := by omega
  rw [ej]
  by_cases ei : i = m - 1
  ·rw [ei]; exact h1
  ·exact O.tr _ _ _ h1 (h i (m - 1) (by omega) (by omega))
theorem asc_ok (O : Ord lt n) {p : Array Nat} (hp : Pm n p) : ∀ (f m : Nat), 1 ≤ m → m + f = n → SoA lt p m → Gd lt n (kas_asc p f m) (fun r => m ≤ r ∧ r ≤ n ∧ SoA lt p r ∧ (r < n → lt (gA p r) (gA p (r - 1)) = true))
 | 0, m, _, h1, hs => ⟨Nat.le_refl _, by omega, hs, fun z => absurd z (by omega)⟩
 | f + 1, m, h0, h1, hs => by
  refine ⟨hp.lt (by omega), hp.lt (by omega), ?_⟩
  cases c : lt (gA p m) (gA p (m - 1)) with
  | true =>
   exact ⟨Nat.le_refl _, by omega, hs, fun _ => c⟩
  | false =>
   have h2 := O.tot _ _ (hp.lt (by omega)) (hp.lt (by omega)) (hp.ne (by omega : m - 1 < m) (by omega)).symm c
   refine (asc_ok O hp f (m + 1) (by omega) (by omega) (hs.more O h2)).mono fun r ⟨a, b, cc, d⟩ => ⟨by omega, b, cc, d⟩
theorem desc_ok (O : Ord lt n) {p : Array Nat} (hp : Pm n p) : ∀ (f m : Nat), 1 ≤ m → m + f = n → DeA lt p m → Gd lt n (kas_desc f p m 0) (fun r => r.1 = p ∧ r.2.2 = 0 ∧ m ≤ r.2.1 ∧ r.2.1 ≤ n ∧ DeA lt p r.2.1)
 | 0, m, _, h1, hs => ⟨rfl, rfl, Nat.le_refl _, by show m ≤ n; omega, hs⟩
 | f + 1, m, h0, h1, hs => by
  refine ⟨hp.lt (by omega), hp.lt (by omega), ?_⟩
  cases c : lt (gA p m) (gA p (m - 1)) with
  | true =>
   refine (desc_ok O hp f (m + 1) (by omega) (by omega) (hs.more O c)).mono fun r ⟨a, b, cc, d, e⟩ => ⟨a, b, by omega, d, e⟩
  | false =>
   have h2 := O.tot _ _ (hp.lt (by omega)) (hp.lt (by omega)) (hp.ne (by omega : m - 1 < m) (by omega)).symm c
   refine ⟨hp.lt (by omega), hp.lt (by omega), ?_⟩
   show Gd lt n (if (lt (gA p (m - 1)) (gA p m)) = true then KasT.ret (p, m, 0) else kas_desc f p (m + 1) (0 + 1)) _
   rw [if_pos h2]
   exact ⟨rfl, rfl, Nat.le_refl _, by show m ≤ n; omega, hs⟩
theorem rev_ok {p : Array Nat} (hp : Pm n p) {m : Nat} (hm : m ≤ n) : Pm n (kas_rev p 0 m) := hp.of (mirror_perm _ _ _ _)
theorem rev_so {p : Array Nat} (hp : Pm n p) {m : Nat} (hm : m ≤ n) (h : DeA lt p m) : SoA lt (kas_rev p 0 m) m := fun i j hij hj => by
 have e : ∀ k, k < m → gA (kas_rev p 0 m) k = gA p (m - 1 - k) := fun k hk => by
  rw [gA_get, gA_get]
  have := getElem?_mirror_all (xs := p) (i := 0) (j := m) (by rw [hp.size]; exact hm) k
  unfold kas_rev
  rw [this, if_pos ⟨Nat.zero_le _, hk⟩]
  congr 2
  omega
 rw [e i (by omega), e j hj]
 exact h _ _ (by omega) (by omega)
theorem tail_ok (O : Ord lt n) {p : Array Nat} (hp : Pm n p) {m : Nat} (h1 : 1 ≤ m) (hm : m ≤ n) (h : DeA lt p m) : Gd lt n (kas_tail3 m n p) (fun r => Pm n r.2 ∧ 1 ≤ r.1 ∧ r.1 ≤ n ∧ SoA lt r.2 r.1) := by
 unfold kas_tail3
 refine Gd.bind ((asc_ok O (rev_ok hp hm) (n - m) m h1 (by omega) (rev_so hp hm h)).mono fun r ⟨a, b, c, _⟩ => ?_)
 exact ⟨rev_ok hp hm, by show 1 ≤ r; omega, b, c⟩
theorem count_ok (O : Ord lt n) (h1 : 1 ≤ n) {p : Array Nat} (hp : Pm n p) : Gd lt n (kas_count n p) (fun r => Pm n r.2 ∧ 1 ≤ r.1 ∧ r.1 ≤ n ∧ SoA lt r.2 r.1) := by
 unfold kas_count
 refine Gd.bind ((asc_ok O hp (n - 1) 1 (Nat.le_refl _) (by omega) (fun i j a b => absurd a (by omega))).mono fun r ⟨a, b, c, d⟩ => ?_)
 by_cases e : r = n
 ·rw [if_pos (by rw [e]; exact beq_self_eq_true n)]
  exact ⟨hp, a, b, c⟩
 ·rw [if_neg (by rw [beq_iff_eq]; exact e)]
  by_cases e2 : r > 1
  ·rw [if_pos e2]
   refine ⟨hp.lt (by omega), hp.lt (by omega), ?_⟩
   show Gd lt n (if (lt (gA p 0) (gA p (r - 1))) = true then KasT.ret (r, p) else _) _
   rw [if_pos (c 0 (r - 1) (by omega) (by omega))]
   exact ⟨hp, a, b, c⟩
  ·rw [if_neg e2]
   have er : r = 1 := by omega
   subst er
   have hn : 1 < n := by omega
   have dd := d hn
   unfold kas_descPart
   refine Gd.bind ((desc_ok O hp (n - (1 + 1)) (1 + 1) (by omega) (by omega) (fun i j x y => by
    have ei : i = 0 := by omega
    have ej : j = 1 := by omega
    rw [ei, ej]; exact dd)).mono fun q ⟨q1, q2, q3, q4, q5⟩ => ?_)
   rw [if_neg (by rw [q2]; omega), q1]
   exact tail_ok O hp (by omega) q4 q5
theorem place_ok (O : Ord lt n) {p : Array Nat} (hp : Pm n p) {k : Nat} (hk : k < n) (hs : SoA lt p k) : ∀ (f l r : Nat), l ≤ r → r ≤ k → r - l ≤ f → (∀ i, i < l → lt (gA p i) (gA p k) = true) → (∀ i, r ≤ i → i < k → lt (gA p k) (gA p i) = true) → Gd lt n (kas_place p k f l r) (fun m => m ≤ k ∧ (∀ i, i < m → lt (gA p i) (gA p k) = true) ∧ ∀ i, m ≤ i → i < k → lt (gA p k) (gA p i) = true)
 | 0, l, r, h1, h2, h3, a, b => ⟨by omega, a, fun i x y => b i (by omega) y⟩
 | f + 1, l, r, h1, h2, h3, a, b => by
  show Gd lt n (if l ≥ r then KasT.ret l else KasT.ask (gA p k) (gA p ((l + r) / 2)) fun c => if c = true then kas_place p k f l ((l + r) / 2) else kas_place p k f ((l + r) / 2 + 1) r) _
  by_cases e : l ≥ r
  ·rw [if_pos e]
   exact ⟨by omega, a, fun i x y => b i (by omega) y⟩
  ·rw [if_neg e]
   refine ⟨hp.lt hk, hp.lt (by omega), ?_⟩
   cases c : lt (gA p k) (gA p ((l + r) / 2)) with
   | true =>
    refine place_ok O hp hk hs f l ((l + r) / 2) (by omega) (by omega) (by omega) a fun i x y => ?_
    by_cases ei : i = (l + r) / 2
    ·rw [ei]; exact c
    ·exact O.tr _ _ _ c (hs _ _ (by omega) y)
   | false =>
    have h5 := O.tot _ _ (hp.lt hk) (hp.lt (by omega)) (hp.ne (by omega : (l + r) / 2 < k) hk).symm c
    refine place_ok O hp hk hs f ((l + r) / 2 + 1) r (by omega) h2 (by omega) (fun i x => ?_) b
    by_cases ei : i = (l + r) / 2
    ·rw [ei]; exact h5
    ·exact O.tr _ _ _ (hs i _ (by omega : i < (l + r) / 2) (by omega)) h5
theorem bub_so (O : Ord lt n) {p : Array Nat} (hp : Pm n p) {k m : Nat} (hk : k < n) (hm : m ≤ k) (hs : SoA lt p k) (a : ∀ i, i < m → lt (gA p i) (gA p k) = true) (b : ∀ i, m ≤ i → i < k → lt (gA p k) (gA p i) = true) : SoA lt (bubble p k (k - m)) (k + 1) := fun i j hij hj => by
 have e : ∀ x, gA (bubble p k (k - m)) x = if x = m then gA p k else if m < x ∧ x ≤ k then gA p (x - 1) else gA p x := fun x => by
  have := getElem?_bubble (xs := p) (src := k) (by rw [hp.size]; exact hk) (k - m) (by omega) x
  have e0 : k - (k - m) = m := by omega
  rw [e0] at this
  rw [gA_get, this]
  by_cases h1 : x = m
  ·rw [if_pos h1, if_pos h1, gA_get]
  ·rw [if_neg h1, if_neg h1]
   by_cases h2 : m < x ∧ x ≤ k
   ·rw [if_pos h2, if_pos h2, gA_get]
   ·rw [if_neg h2, if_neg h2, gA_get]
 rw [e i, e j]
 by_cases i1 : i = m
 ·rw [if_pos i1, if_neg (by omega), if_pos (by omega)]
  exact b _ (by omega) (by omega)
 ·rw [if_neg i1]
  by_cases i2 : m < i ∧ i ≤ k
  ·rw [if_pos i2, if_neg (by omega), if_pos (by omega)]
   exact hs _ _ (by omega) (by omega)
  ·rw [if_neg i2]
   by_cases j1 : j = m
   ·rw [if_pos j1]; exact a _ (by omega)
   ·rw [if_neg j1]
    by_cases j2 : m < j ∧ j ≤ k
    ·rw [if_pos j2]; exact hs _ _ (by omega) (by omega)
    ·rw [if_neg j2]; exact hs _ _ hij (by omega)
theorem bin_ok (O : Ord lt n) : ∀ (f : Nat) (p : Array Nat) (k : Nat), k + f = n → Pm n p → SoA lt p k → Gd lt n (kas_bin f p k) (fun q => Pm n q ∧ SoA lt q n)
 | 0, p, k, h1, hp, hs => by
  have e : k = n := by omega
  rw [e] at hs
  exact ⟨hp, hs⟩
 | f + 1, p, k, h1, hp, hs => by
  show Gd lt n ((kas_place p k k 0 k).bind fun l => kas_bin f (bubble p k (k - l)) (k + 1)) _
  refine Gd.bind ((place_ok O hp (by omega) hs k 0 k (Nat.zero_le _) (Nat.le_refl _) (by omega) (fun i x => absurd x (by omega)) (fun i x y => absurd x (by omega))).mono fun m ⟨m1, m2, m3⟩ => ?_)
  exact bin_ok O f _ (k + 1) (by omega) (hp.of (bubble_perm _ _ _)) (bub_so O hp (by omega) m1 hs m2 m3)
theorem sort_ok (O : Ord lt n) (h1 : 1 ≤ n) : Gd lt n (kas_sort n) (fun q => Pm n q ∧ SoA lt q n) := by
 unfold kas_sort
 refine Gd.bind ((count_ok O h1 (p := (List.range n).toArray) (by show (List.range n).toArray.toList.Perm _; rw [List.toList_toArray])).mono fun r ⟨a, b, c, d⟩ => ?_)
 by_cases e : r.1 < n
 ·rw [if_pos e]
  have em : max r.1 1 = r.1 := by omega
  rw [em]
  exact bin_ok O _ _ _ (by omega) a d
 ·rw [if_neg e]
  have er : r.1 = n := by omega
  rw [er] at d
  exact ⟨a, d⟩
end
end L2
namespace L2
open PySem PySem.W PyProof.Rows
theorem sortedHeap_keep {h : Heap} {a : Addr} {vs : List Value} {out : Array Value} {b : Addr} {u : Obj} (hb : b ≠ a) (e : h.get? b = some u) : (sortedHeap h a vs out).get? b = some u := by
 unfold sortedHeap
 rw [Heap.get?_update_ne _ _ _ _ hb]
 exact Heap.get?_push_of_some _ (Heap.get?_push_of_some _ (by rw [Heap.get?_update_ne _ _ _ _ hb]; exact e))
theorem sortedHeap_at {h : Heap} {a : Addr} {vs : List Value} {out : Array Value} {n : Nat} (e : h.get? a = some (seqObj "list" vs.toArray n)) : ∃ c, (sortedHeap h a vs out).get? a = some (seqObj "list" out c) := by
 unfold sortedHeap
 exact ⟨_, get?_update_seq (Heap.get?_push_of_some _ (Heap.get?_push_of_some _ (get?_update_seq e fun _ => #[]))) fun _ => out⟩
def preAll (h : Heap) (vs : List Value) : Heap := ((h.push (seqObj "list" #[] 0)).update h.objs.size (Obj.mapSeq (· ++ vs.toArray))).push (seqObj "list" vs.toArray 0)
theorem preAll_keep {h : Heap} {vs : List Value} {b : Addr} {u : Obj} (e : h.get? b = some u) : (preAll h vs).get? b = some u := by
 have hb := Heap.lt_size e
 exact Heap.get?_push_of_some _ (by rw [Heap.get?_update_ne _ _ _ _ (Nat.ne_of_lt hb)]; exact Heap.get?_push_of_some _ e)
theorem preAll_at {h : Heap} {vs : List Value} : (preAll h vs).get? (h.objs.size + 1) = some (seqObj "list" vs.toArray 0) := by
 have hsz : ((h.push (seqObj "list" #[] 0)).update h.objs.size (Obj.mapSeq (· ++ vs.toArray))).objs.size = h.objs.size + 1 := by
  rw [Heap.size_update, size_push']
 unfold preAll
 rw [← hsz]; exact Heap.get?_push_size _ rfl
section
variable {X : Cx}
end
end L2
namespace L2
open PySem PySem.W PyProof.Rows
section
variable {prog : Program} {w : World} {A : Around} {E : Value → Shared → Prop} {s : Shared}
def midHeap (h : Heap) (a : Addr) (vs : List Value) : Heap := ((h.update a (Obj.mapSeq fun _ => (#[] : Array Value))).push (seqObj "tuple" vs.toArray 0)).push (seqObj "list" #[] 0)
theorem mid_keep {h : Heap} {a : Addr} {vs : List Value} {b : Addr} {u : Obj} (hb : b ≠ a) (e : h.get? b = some u) : (midHeap h a vs).get? b = some u :=
 Heap.get?_push_of_some _ (Heap.get?_push_of_some _ (by rw [Heap.get?_update_ne _ _ _ _ hb]; exact e))
theorem list_sort_ask {a : Addr} {vs : List Value} {n : Nat} {κ : SortKind} {lt : Nat → Nat → Bool} {P : PySem.Fin → Shared → Prop} (ho : s.heap.get? a = some (seqObj "list" vs.toArray n)) (h2 : 2 ≤ vs.length) (h64 : vs.length < 64) (O : Ord lt vs.length)
  (hk : ∀ Q : SortKind → Shared → Prop, Q κ { s with heap := midHeap s.heap a vs } → wpAny (model prog w) A (keyKind' vs.toArray) Q (fun _ _ => False) { s with heap := midHeap s.heap a vs })
  (hc : ∀ i j C, i < vs.length → j < vs.length → C (lt i j) { s with heap := midHeap s.heap a vs } → kas_ask prog w A κ vs i j C { s with heap := midHeap s.heap a vs })
  (h : ∀ p : Array Nat, Pm vs.length p → SoA lt p vs.length → P (.done (.ret .none)) { s with heap := sortedHeap s.heap a vs (List.toArray (p.toList.map fun i => vs.getD i Value.none)) }) :
  wpAny (model prog w) A (Builtin.«list.sort» ⟨[.ref a], []⟩) P E s := by
 obtain ⟨e1, ho1⟩ : ∃ e1, (s.heap.update a (Obj.mapSeq fun _ => (#[] : Array Value))).get? a = some (seqObj "list" #[] e1) := ⟨_, get?_update_seq ho fun _ => #[]⟩
 have ho6 : (midHeap s.heap a vs).get? a = some (seqObj "list" #[] e1) := Heap.get?_push_of_some _ (Heap.get?_push_of_some _ ho1)
 rw [list_sort_plain]
 refine wpAny_bind (listItems_at ho rfl ?_)
 refine wpAny_bind (listUpdate_at ho rfl ?_ (by rw [List.size_toArray, sizeLine_eq]; omega) (Nat.zero_le _))
 refine wpAny_bind (seqEpoch_at ho1 rfl ?_)
 refine wpAny_bind (wpAny_newTuple ?_ (by show vs.length ≤ _; rw [sizeLine_eq]; omega))
 refine wpAny_bind (wpAny_newList ?_ (Nat.zero_le _))
 refine wpAny_holding ?_
 show wpAny (model prog w) A _ P E { s with heap := midHeap s.heap a vs }
 dsimp only
 have hn2 : ¬ vs.toArray.size < 2 := by rw [List.size_toArray]; omega
 rw [if_neg hn2, if_neg hn2]
 refine wpAny_bind (wpAny_mono (hk (fun κ' s' => κ' = κ ∧ s' = { s with heap := midHeap s.heap a vs }) ⟨rfl, rfl⟩) (fun κ' s0 z => ?_) fun _ _ x => x.elim)
 obtain ⟨z1, z2⟩ := z
 subst z1
 subst z2
 have G := (sort_ok O (by omega)).wp (cmp := kas_ask prog w A κ' vs) (s := { s with heap := midHeap s.heap a vs }) (Q := fun p s' => s' = { s with heap := midHeap s.heap a vs } ∧ Pm vs.length p ∧ SoA lt p vs.length) hc (fun p hp => ⟨rfl, hp.1, hp.2⟩)
 refine wpAny_bind (wpAny_mono (kat_run (Q := fun st' s' => ∃ p : Array Nat, p.size = vs.length ∧ arrOf st' = p.map (kas_item (vs.toArray.zip vs.toArray)) ∧ failedOf st' = none ∧ s' = { s with heap := midHeap s.heap a vs } ∧ Pm vs.length p ∧ SoA lt p vs.length) rfl h2 h64 (fun p' st' s' a1 a2 a3 a4 => ⟨p', a1, a2, a3, a4.1, a4.2.1, a4.2.2⟩) G) ?_ fun _ _ e => e)
 rintro ⟨⟨⟩, st'⟩ s' ⟨p, hp, har, hf, rfl, pm, so⟩
 dsimp only
 have hout := kat_snds rfl har
 have hsz : (List.toArray (p.toList.map fun i => vs.getD i Value.none)).size = vs.length := by rw [List.size_toArray, List.length_map, Array.length_toList, hp]
 rw [hout]
 refine wpAny_bind (seqEpoch_at ho6 rfl ?_)
 refine wpAny_bind (listUpdate_at ho6 rfl ?_ (Nat.zero_le _) (Nat.le_trans (Nat.le_of_eq hsz) (by rw [sizeLine_eq]; omega)))
 rw [hf]
 simp only [bne_self_eq_false, Bool.false_eq_true, if_false]
 exact wpAny_pure (h p pm so)
theorem list_sort_few {a : Addr} {vs : List Value} {n : Nat} {P : PySem.Fin → Shared → Prop} (ho : s.heap.get? a = some (seqObj "list" vs.toArray n)) (h2 : vs.length < 2)
  (h : P (.done (.ret .none)) { s with heap := sortedHeap s.heap a vs vs.toArray }) :
  wpAny (model prog w) A (Builtin.«list.sort» ⟨[.ref a], []⟩) P E s := by
 obtain ⟨e1, ho1⟩ : ∃ e1, (s.heap.update a (Obj.mapSeq fun _ => (#[] : Array Value))).get? a = some (seqObj "list" #[] e1) := ⟨_, get?_update_seq ho fun _ => #[]⟩
 have ho6 : (midHeap s.heap a vs).get? a = some (seqObj "list" #[] e1) := Heap.get?_push_of_some _ (Heap.get?_push_of_some _ ho1)
 rw [list_sort_plain]
 refine wpAny_bind (listItems_at ho rfl ?_)
 refine wpAny_bind (listUpdate_at ho rfl ?_ (by rw [List.size_toArray, sizeLine_eq]; omega) (Nat.zero_le _))
 refine wpAny_bind (seqEpoch_at ho1 rfl ?_)
 refine wpAny_bind (wpAny_newTuple ?_ (by show vs.length ≤ _; rw [sizeLine_eq]; omega))
 refine wpAny_bind (wpAny_newList ?_ (Nat.zero_le _))
 refine wpAny_holding ?_
 show wpAny (model prog w) A _ P E { s with heap := midHeap s.heap a vs }
 dsimp only
 have hn2 : vs.toArray.size < 2 := by rw [List.size_toArray]; omega
 rw [if_pos hn2, if_pos hn2]
 refine wpAny_bind (wpAny_pure ?_)
 rw [StateT.run_pure]
 refine wpAny_bind (wpAny_pure ?_)
 dsimp only
 have hout : (arrOf (SortSt.mk' general' (vs.toArray.zip vs.toArray) #[] 7 none)).map (·.2) = vs.toArray := by
  show (vs.toArray.zip vs.toArray).map (·.2) = vs.toArray
  apply Array.toList_inj.mp
  rw [Array.toList_map, Array.toList_zip]
  simp [List.map_snd_zip]
 rw [hout]
 refine wpAny_bind (seqEpoch_at ho6 rfl ?_)
 refine wpAny_bind (listUpdate_at ho6 rfl ?_ (Nat.zero_le _) (by rw [List.size_toArray, sizeLine_eq]; omega))
 simp only [bne_self_eq_false, Bool.false_eq_true, if_false]
 exact wpAny_pure h
theorem sorted_by {l : Addr} {vs : List Value} {Q : Value → Shared → Prop} {out : List Value → Prop} (hl : s.heap.IsList l vs.toArray) (h64 : vs.length < 64)
  (hs : ∀ (A : Around) (E : Value → Shared → Prop) (P : PySem.Fin → Shared → Prop), (∀ o, out o → P (.done (.ret .none)) { s with heap := sortedHeap (preAll s.heap vs) (s.heap.objs.size + 1) vs o.toArray }) → wpAny (model prog w) A (Builtin.«list.sort» ⟨[.ref (s.heap.objs.size + 1)], []⟩) P E { s with heap := preAll s.heap vs })
  (h : ∀ o, out o → Q (.ref (s.heap.objs.size + 1)) { s with heap := sortedHeap (preAll s.heap vs) (s.heap.objs.size + 1) vs o.toArray }) :
  wpAny (model prog w) A (call (.builtin "sorted") [.ref l]) Q E s := by
 refine Calls.call_function_entry kind_sorted plain_sorted entry_sorted (args_sorted1 _) ?_
 unfold Builtin.«sorted»
 refine wpAny_bind (m := checkCount "sorted" 1 1 _) (wpAny_pure ?_)
 refine wpAny_bind (collect_list hl ?_ (by rw [sizeLine_eq]; omega))
 refine wpAny_bind (wpAny_newList ?_ (by rw [sizeLine_eq]; omega))
 have hsz : ((s.heap.push (seqObj "list" #[] 0)).update s.heap.objs.size (Obj.mapSeq (· ++ vs.toArray))).objs.size = s.heap.objs.size + 1 := by
  rw [Heap.size_update, size_push']
 show wpAny _ _ _ _ _ { s with heap := preAll s.heap vs }
 rw [hsz]
 refine wpAny_bind (wpAny_holding (wpAny_call_entry slot_list_sort ⟨_, preAll_at, rfl⟩ entry_list_sort (hs _ _ _ fun o ho => ⟨_, rfl, ?_⟩) (args_list_sort _)))
 exact wpAny_pure ⟨_, rfl, h o ho⟩
end
end L2
namespace L2
open PySem PySem.W PyProof.Rows
def ltP (k m : Int × Int) : Bool := if (k.1 == m.1) = true then (if (k.2 == m.2) = true then false else decide (k.2 < m.2)) else decide (k.1 < m.1)
theorem ltP_iff {k m : Int × Int} : ltP k m = true ↔ (k.1 < m.1 ∨ (k.1 = m.1 ∧ k.2 < m.2)) := by
 unfold ltP
 by_cases h1 : k.1 = m.1
 ·rw [if_pos (by rw [beq_iff_eq]; exact h1)]
  by_cases h2 : k.2 = m.2
  ·rw [if_pos (by rw [beq_iff_eq]; exact h2)]
   constructor
   ·intro h; cases h
   ·intro h; omega
  ·rw [if_neg (by rw [beq_iff_eq]; exact h2), decide_eq_true_eq]
   omega
 ·rw [if_neg (by rw [beq_iff_eq]; exact h1), decide_eq_true_eq]
  omega
abbrev kyP (ks : List (Int × Int)) (i : Nat) : Int × Int := ks.getD i (0, 0)
theorem kyP_at {ks : List (Int × Int)} {i : Nat} (h : i < ks.length) : kyP ks i = ks[i] := by
 show ks.getD i (0, 0) = _
 rw [List.getD_eq_getElem?_getD, gE h]; rfl
theorem ord_of {ks : List (Int × Int)} (h : ks.Nodup) : Ord (fun i j => ltP (kyP ks i) (kyP ks j)) ks.length := by
 refine ⟨fun i j hi hj hne hf => ?_, fun i j k h1 h2 => ?_⟩
 ·show ltP (kyP ks j) (kyP ks i) = true
  have hn : kyP ks i ≠ kyP ks j := by
   rw [kyP_at hi, kyP_at hj]
   intro e
   exact hne ((List.getElem_inj h).mp e)
  have hf : ¬ ltP (kyP ks i) (kyP ks j) = true := by
   show ¬ ltP (kyP ks i) (kyP ks j) = true
   rw [show ltP (kyP ks i) (kyP ks j) = false from hf]; decide
  rw [ltP_iff] at hf ⊢
  have : ¬ ((kyP ks i).1 = (kyP ks j).1 ∧ (kyP ks i).2 = (kyP ks j).2) := fun z => hn (Prod.ext z.1 z.2)
  omega
 ·have h1 : ltP (kyP ks i) (kyP ks j) = true := h1
  have h2 : ltP (kyP ks j) (kyP ks k) = true := h2
  show ltP (kyP ks i) (kyP ks k) = true
  rw [ltP_iff] at h1 h2 ⊢
  omega
def PrsAt (h : Heap) (vs : List Value) (ks : List (Int × Int)) : Prop := vs.length = ks.length ∧ ∀ (i : Nat) (v : Value) (k : Int × Int), vs[i]? = some v → ks[i]? = some k → ∃ a o t u n, v = .ref a ∧ h.get? a = some o ∧ o.cls = .type "tuple" ∧ o.data = .seq #[.int k.1 t, .int k.2 u] n
theorem PrsAt.kept {h h' : Heap} {vs : List Value} {ks : List (Int × Int)} (p : PrsAt h vs ks) (k : ∀ b u, h.get? b = some u → h'.get? b = some u) : PrsAt h' vs ks := by
 refine ⟨p.1, fun i v kk e1 e2 => ?_⟩
 obtain ⟨a, o, t, u, n, q1, q2, q3, q4⟩ := p.2 i v kk e1 e2
 exact ⟨a, o, t, u, n, q1, k _ _ q2, q3, q4⟩
theorem prs_tups {h : Heap} : ∀ {vs : List Value} {ks : List (Int × Int)}, PrsAt h vs ks → ∃ fs : List Value, KatTups h vs fs ∧ fs.length = vs.length ∧ ∀ f ∈ fs, ∃ i t, f = Value.int i t
 | [], [], _ => ⟨[], trivial, rfl, fun f hf => absurd hf (by simp)⟩
 | [], _ :: _, p => absurd p.1 (by simp)
 | _ :: _, [], p => absurd p.1 (by simp)
 | v :: vs, k :: ks, p => by
  obtain ⟨fs, t1, t2, t3⟩ := prs_tups (vs := vs) (ks := ks) ⟨by have := p.1; simp only [List.length_cons] at this; omega, fun i v' k' e1 e2 => p.2 (i + 1) v' k' (by simpa using e1) (by simpa using e2)⟩
  obtain ⟨a, o, t, u, n, rfl, q2, q3, q4⟩ := p.2 0 v k rfl rfl
  refine ⟨.int k.1 t :: fs, KatTups.cons q2 q3 q4 rfl t1, by rw [List.length_cons, List.length_cons, t2], fun f hf => ?_⟩
  rcases List.mem_cons.mp hf with rfl | hf
  ·exact ⟨_, _, rfl⟩
  ·exact t3 f hf
section
variable {prog : Program} {w : World} {A : Around} {E : Value → Shared → Prop} {s : Shared}
theorem prs_kind {vs : List Value} {ks : List (Int × Int)} (p : PrsAt s.heap vs ks) (h1 : 1 ≤ vs.length) {Q : SortKind → Shared → Prop} (q : Q (tuples' true) s) : wpAny (model prog w) A (keyKind' vs.toArray) Q E s := by
 obtain ⟨fs, t1, t2, t3⟩ := prs_tups p
 have e1 : ((Value.type "int" : Value) == Value.type "int") = true := by decide +kernel
 have e2 : ((Value.type "int" : Value) != Value.type "tuple") = true := by decide +kernel
 refine kat_kind (T := .type "int") t1 (by omega) (fun v hv => ?_) e1 (by rw [e2]; exact q)
 obtain ⟨i, t, rfl⟩ := t3 v hv
 exact Looks.of_pure rfl
theorem prs_ask {vs : List Value} {ks : List (Int × Int)} (p : PrsAt s.heap vs ks) {i j : Nat} (hi : i < vs.length) (hj : j < vs.length) {C : Bool → Shared → Prop} (c : C (ltP (kyP ks i) (kyP ks j)) s) : kas_ask prog w A (tuples' true) vs i j C s := by
 have li := p.1
 obtain ⟨a, o, t, u, n, e1, q2, q3, q4⟩ := p.2 i vs[i] ks[i] (gE hi) (gE (by omega))
 obtain ⟨a', o', t', u', n', e1', q2', q3', q4'⟩ := p.2 j vs[j] ks[j] (gE hj) (gE (by omega))
 unfold kas_ask
 have ei : vs.getD i Value.none = .ref a := by rw [List.getD_eq_getElem?_getD, gE hi]; exact e1
 have ej : vs.getD j Value.none = .ref a' := by rw [List.getD_eq_getElem?_getD, gE hj]; exact e1'
 rw [ei, ej]
 rw [kyP_at (by omega), kyP_at (by omega)] at c
 refine kat_lt q2 q4 q2' q4' ?_
 refine kat_cons (wpAny_eqBool_int ?_)
 unfold ltP at c
 by_cases h1 : (ks[i].1 == ks[j].1) = true
 ·rw [if_pos h1] at c
  rw [h1]
  refine kat_yes (kat_cons (wpAny_eqBool_int ?_))
  by_cases h2 : (ks[i].2 == ks[j].2) = true
  ·rw [if_pos h2] at c
   rw [h2]
   exact kat_yes (kat_nil c)
  ·rw [if_neg h2] at c
   rw [Bool.eq_false_iff.mpr h2]
   exact kat_no (kat_one _ _ (lt_int (Q := PySem.W.BoolBack C) c))
 ·rw [if_neg h1] at c
  rw [Bool.eq_false_iff.mpr h1]
  exact kat_no (oneLt_int c)
end
section
variable {X : Cx}
theorem call_sortedP : CallR X (.builtin "sorted") (fun xs H Q => ∃ (p : Addr) (as : List Addr) (ks : List (Int × Int)), xs = [.ref p] ∧ SqL X.K H p (as.map V.ref) ∧ as.length = ks.length ∧ (∀ (i : Nat) a k, as[i]? = some a → ks[i]? = some k → H a = some (.tup [.int k.1, .int k.2])) ∧ ks.Nodup ∧ ks.length < 64 ∧
  ∀ (l : Addr) (π : List Nat), H l = none → π.Perm (List.range ks.length) → π.Pairwise (fun i j => ltP (kyP ks i) (kyP ks j) = true) → Q (.ref l) (upd H l (.lst (π.map fun i => V.ref (as.getD i 0))))) := by
 intro pins s σ H xs us Q I r h
 obtain ⟨p, as, ks, rfl, hq, hlen, hks, hnd, hn, q⟩ := h
 obtain ⟨u, rfl, ru⟩ := vals1 r
 cases (show u = Value.ref p from ru)
 obtain ⟨its, rv, pl, hz⟩ := I.list hq
 have hl : its.length = as.length := by rw [← rv.length, List.length_map]
 have hat : ∀ i, i < as.length → its[i]? = some (.ref (as.getD i 0)) := fun i hi => by
  obtain ⟨v, e1, e2⟩ := rv.get (i := i) (x := V.ref as[i]) (by rw [List.getElem?_map, gE hi]; rfl)
  rw [e1, show v = Value.ref as[i] from e2, List.getD_eq_getElem?_getD, gE hi]; rfl
 have P0 : PrsAt s.heap its ks := by
  refine ⟨by omega, fun i v k e1 e2 => ?_⟩
  have hi : i < as.length := by rw [← hl]; exact (List.getElem?_eq_some_iff.mp e1).1
  have hH := hks i as[i] k (gE hi) e2
  obtain ⟨tz, tts, tr, o, ho, hcl, _, nn, hdt⟩ := I.hok as[i] _ hH
  rw [hat i hi] at e1
  cases e1
  cases tr with
  | cons r1 tr => cases tr with
   | cons r2 tr =>
    cases tr
    obtain ⟨t1, rfl⟩ := r1
    obtain ⟨t2, rfl⟩ := r2
    have ea : as.getD i 0 = as[i] := by rw [List.getD_eq_getElem?_getD, gE hi]; rfl
    rw [ea]
    exact ⟨as[i], o, t1, t2, nn, rfl, ho, hcl, hdt⟩
 have keep1 : ∀ b u, s.heap.get? b = some u → (preAll s.heap its).get? b = some u := fun b u e => preAll_keep e
 refine sorted_by (out := fun o => ∃ π : List Nat, π.Perm (List.range ks.length) ∧ π.Pairwise (fun i j => ltP (kyP ks i) (kyP ks j) = true) ∧ o = π.map fun i => its.getD i Value.none) pl.isList (by omega) (fun A' E' P' hP => ?_) (fun o ho => ?_)
 ·by_cases h2 : its.length < 2
  ·refine list_sort_few preAll_at h2 (hP its ⟨List.range ks.length, List.Perm.refl _, ?_, ?_⟩)
   ·refine List.pairwise_iff_getElem.mpr fun a b ha hb hab => ?_
    rw [List.length_range] at hb
    omega
   ·refine List.ext_getElem? fun i => ?_
    rw [List.getElem?_map]
    by_cases hi : i < ks.length
    ·rw [List.getElem?_range hi]
     show its[i]? = some (its.getD i Value.none)
     rw [List.getD_eq_getElem?_getD, gE (by omega)]; rfl
    ·rw [List.getElem?_eq_none (by omega), List.getElem?_eq_none (by rw [List.length_range]; omega)]; rfl
  ·have O : Ord (fun i j => ltP (kyP ks i) (kyP ks j)) its.length := by rw [P0.1]; exact ord_of hnd
   have PM : PrsAt (midHeap (preAll s.heap its) (s.heap.objs.size + 1) its) its ks := P0.kept fun b u e => mid_keep (Nat.ne_of_lt (Nat.lt_succ_of_lt (Heap.lt_size e))) (preAll_keep e)
   refine list_sort_ask (κ := tuples' true) preAll_at (by omega) (by omega) O (fun Q' q' => prs_kind (s := { s with heap := midHeap (preAll s.heap its) (s.heap.objs.size + 1) its }) PM (by omega) q') (fun i j C hi hj c => prs_ask (s := { s with heap := midHeap (preAll s.heap its) (s.heap.objs.size + 1) its }) PM hi hj c) fun pp pm so => hP _ ⟨pp.toList, ?_, ?_, rfl⟩
   ·rw [← P0.1]; exact pm
   ·refine List.pairwise_iff_getElem.mpr fun a b ha hb hab => ?_
    have sz := Pm.size pm
    rw [Array.length_toList] at ha hb
    have := so a b hab (by omega)
    have ea : gA pp a = pp.toList[a] := by rw [gA_get, Array.getElem?_eq_getElem ha]; simp
    have eb : gA pp b = pp.toList[b] := by rw [gA_get, Array.getElem?_eq_getElem hb]; simp
    rw [ea, eb] at this
    exact this
 ·obtain ⟨π, hp1, hp2, rfl⟩ := ho
  obtain ⟨c, hc⟩ := sortedHeap_at (h := preAll s.heap its) (vs := its) (out := (π.map fun i => its.getD i Value.none).toArray) preAll_at
  have hlt : ∀ i ∈ π, i < as.length := fun i hi => by
   have := List.mem_range.mp (hp1.mem_iff.mp hi)
   omega
  refine ⟨.ref (s.heap.objs.size + 1), _, I.laid (o := .lst (π.map fun i => V.ref (as.getD i 0))) (t' := s.toks) (fun b u e => sortedHeap_keep (Nat.ne_of_lt (Nat.lt_succ_of_lt (Heap.lt_size e))) (preAll_keep e)) (Nat.le_succ _) ⟨?_, π.map fun i => its.getD i Value.none, c, ?_, hc⟩, rfl, q _ π (I.hok.fresh (Nat.le_succ _)) hp1 hp2⟩
  ·rw [List.length_map, hp1.length_eq, List.length_range]; exact Nat.le_trans (by omega : ks.length ≤ 1000) (by decide)
  ·refine vals_at (by rw [List.length_map, List.length_map]) fun i x hx => ?_
   rw [List.getElem?_map] at hx
   obtain ⟨j, hj, rfl⟩ := Option.map_eq_some_iff.mp hx
   refine ⟨its.getD j Value.none, by rw [List.getElem?_map, hj]; rfl, ?_⟩
   have e : its.getD j Value.none = .ref (as.getD j 0) := by rw [List.getD_eq_getElem?_getD (l := its), hat j (hlt j (List.mem_of_getElem? hj))]; rfl
   rw [e]
   rfl
end
end L2
namespace HN
open PySem L2 PyProof.Rows
def isI : V → Bool
 | .int _ => true
 | _ => false
def iv : V → Int
 | .int i => i
 | _ => 0
def inI (v : V) (lo hi : Int) : Bool := match v with
 | .int i => decide (lo ≤ i) && decide (i ≤ hi)
 | _ => false
def Kn (H : Hp) (v : V) : Prop := ∃ T, tyn H v = some T
def Below (P : V → Prop) (H : Hp) (v : V) : Prop := Kn H v ∧ ∀ a xs, v = .ref a → H a = some (.tup xs) → ∀ x ∈ xs, P x
abbrev G1 (H : Hp) (v : V) : Prop := Below (Kn H) H v
abbrev G2 (H : Hp) (v : V) : Prop := Below (G1 H) H v
abbrev G3 (H : Hp) (v : V) : Prop := Below (G2 H) H v
theorem tyn_same {H H' : Hp} (e : Same H H') {v : V} {T : String} (h : tyn H v = some T) : tyn H' v = some T := by
 cases v with
 | ref a =>
  simp only [tyn] at h ⊢
  cases q : H a with
  | none => rw [q] at h; cases h
  | some o => rw [e a o q]; rw [q] at h; exact h
 | _ => exact h
theorem Kn.same {H H' : Hp} (e : Same H H') {v : V} (h : Kn H v) : Kn H' v := let ⟨T, q⟩ := h; ⟨T, tyn_same e q⟩
theorem Kn.tracked {H : Hp} {a : Addr} (h : Kn H (.ref a)) : ∃ o, H a = some o := by
 obtain ⟨T, h⟩ := h
 simp only [tyn] at h
 cases q : H a with
 | none => rw [q] at h; cases h
 | some o => exact ⟨o, rfl⟩
theorem Below.same {P P' : V → Prop} {H H' : Hp} (e : Same H H') (hp : ∀ x, P x → P' x) {v : V} (h : Below P H v) : Below P' H' v := by
 refine ⟨h.1.same e, fun a xs ev ha x hx => ?_⟩
 subst ev
 obtain ⟨o, q⟩ := h.1.tracked
 have q' := e a o q
 rw [ha] at q'
 cases q'
 exact hp x (h.2 a xs rfl q x hx)
theorem G1.same {H H' : Hp} (e : Same H H') {v : V} (h : G1 H v) : G1 H' v := Below.same e (fun _ q => q.same e) h
theorem G2.same {H H' : Hp} (e : Same H H') {v : V} (h : G2 H v) : G2 H' v := Below.same e (fun _ q => G1.same e q) h
theorem G3.same {H H' : Hp} (e : Same H H') {v : V} (h : G3 H v) : G3 H' v := Below.same e (fun _ q => G2.same e q) h
theorem sort_int {H : Hp} {v : V} {T : String} (h : tyn H v = some T) : (T == "int" || T == "bool") = true → (!(T == "bool")) = isI v := by
 cases v with
 | ref a =>
  simp only [tyn] at h
  cases q : H a with
  | none => rw [q] at h; cases h
  | some o => rw [q] at h; cases o <;> first | (cases h; intro z; exact absurd z (by decide)) | cases h
 | non => cases h; intro z; exact absurd z (by decide)
 | bl b => cases h; intro _; show (!("bool" == "bool")) = false; decide
 | int i => cases h; intro _; show (!("int" == "bool")) = true; decide
 | str x => cases h; intro z; exact absurd z (by decide)
 | _ => cases h
theorem sort_noInt {H : Hp} {v : V} {T : String} (h : tyn H v = some T) : ¬ (T == "int" || T == "bool") = true → isI v = false := by
 cases v with
 | int i => cases h; intro z; exact absurd (by decide) z
 | _ => intro _; rfl
theorem isI_of {v : V} (h : isI v = true) : ∃ i, v = .int i := by
 cases v with
 | int i => exact ⟨i, rfl⟩
 | _ => cases h
theorem iteB {b : Bool} {A B : Prop} (h : b = true) (x : A) : if b = true then A else B := by rw [if_pos h]; exact x
theorem iteC {b : Bool} {A B : Prop} (h : b = false) (x : B) : if b = true then A else B := by rw [if_neg (by rw [h]; exact Bool.false_ne_true)]; exact x
structure Nm (mg : Str → Option Value) : Prop where
 isin : mg "isinstance" = none
 tint : mg "int" = none
 tbool : mg "bool" = none
 ttup : mg "tuple" = none
 len : mg "len" = none
 min : mg "min" = none
 all : mg "all" = none
structure Cs (mg : Str → Option Value) : Prop where
 mh : ∃ t, mg "MOST_HAPPENINGS" = some (.int 16 t)
 ms : ∃ t, mg "MOST_SPANS" = some (.int 40 t)
 mw : ∃ t, mg "MOST_WEIGHT" = some (.int 1000000000000 t)
structure Fn (K : PySem.W.Frag) (mg : Str → Option Value) (x : Str) (st : Stmt) (ps : List Str) (f : Addr) (fd : FuncData) : Prop where
 F : Fun K x x st f fd
 mg : mg x = some (.ref f)
 b : Binds K fd ps []
theorem pc1 {X : Cx} {k : Nat} {f : Addr} {fd : FuncData} {ps : List Str} {sp : Sp} {x : Str} {st : Stmt} {p pos : Pos} {e : Expr} {es : List Expr} {t : TA} (G : Fn X.K X.mg x st ps f fd) (F : FnOk X.prog X.w X.K X.mg X.base CX0 k f fd ps sp) (hr : Room k X.A)
  (ha : PA X (e :: es) t) (hg : Gl X x := by rfl) (hdb : (x == ("__debug__" : Str)) = false := by decide) (he : starEach (e :: es) X.env = (false, eval e X.env) :: starEach es X.env := by rfl) (hpl : (backTo pos (starEach es X.env)).any (·.1) = false := by rfl) :
  PE X (.Call (.Name x p) (e :: es) [] pos) (tCall sp [] E0 t) := pe_call F hr hg G.mg G.F.kp G.b .nil pass0 ha hdb he hpl
theorem pe_gint {X : Cx} {x : Str} {i : Int} {pos : Pos} (hm : ∃ t, X.mg x = some (.int i t)) (hg : Gl X x := by rfl) (hd : (x == ("__debug__" : Str)) = false := by decide) : PE X (.Name x pos) (tC (.int i)) :=
 let ⟨t, e⟩ := hm; pe_glob (v := .int i) (u := .int i t) hg e ⟨t, rfl⟩ hd
theorem pe_isTup {X : Cx} {e : Expr} {te : TE} {p p2 pos : Pos} (N : Nm X.mg) (he : PE X e te) (hg : Gl X "isinstance" := by rfl) (hg2 : Gl X "tuple" := by rfl)
  (hs1 : starEach [e, .Name "tuple" p2] X.env = (false, eval e X.env) :: starEach [.Name "tuple" p2] X.env := by rfl) (hpl : (backTo pos (starEach [.Name "tuple" p2] X.env)).any (·.1) = false := by rfl) :
  PE X (.Call (.Name "isinstance" p) [e, .Name "tuple" p2] [] pos) (tCB (fun xs H Q => ∃ x T, xs = [x, .ty "tuple"] ∧ tyn H x = some T ∧ Q (.bl (T == "tuple")) H) (tCons te (tCons (tC (.ty "tuple")) tNil))) :=
 pe_callB call_isTup hg N.isin boot_isinstance (pa_cons he (pa_cons (pe_bltn hg2 N.ttup boot_tuple rfl) pa_nil) hs1) (he := hs1) (hpl := hpl)
theorem pe_isInt {X : Cx} {e : Expr} {te : TE} {p p2 pos : Pos} (N : Nm X.mg) (he : PE X e te) (hg : Gl X "isinstance" := by rfl) (hg2 : Gl X "int" := by rfl)
  (hs1 : starEach [e, .Name "int" p2] X.env = (false, eval e X.env) :: starEach [.Name "int" p2] X.env := by rfl) (hpl : (backTo pos (starEach [.Name "int" p2] X.env)).any (·.1) = false := by rfl) :
  PE X (.Call (.Name "isinstance" p) [e, .Name "int" p2] [] pos) (tCB (fun xs H Q => ∃ x T, xs = [x, .ty "int"] ∧ tyn H x = some T ∧ Q (.bl (T == "int" || T == "bool")) H) (tCons te (tCons (tC (.ty "int")) tNil))) :=
 pe_callB call_isInt hg N.isin boot_isinstance (pa_cons he (pa_cons (pe_bltn hg2 N.tint boot_int rfl) pa_nil) hs1) (he := hs1) (hpl := hpl)
theorem pe_isBool {X : Cx} {e : Expr} {te : TE} {p p2 pos : Pos} (N : Nm X.mg) (he : PE X e te) (hg : Gl X "isinstance" := by rfl) (hg2 : Gl X "bool" := by rfl)
  (hs1 : starEach [e, .Name "bool" p2] X.env = (false, eval e X.env) :: starEach [.Name "bool" p2] X.env := by rfl) (hpl : (backTo pos (starEach [.Name "bool" p2] X.env)).any (·.1) = false := by rfl) :
  PE X (.Call (.Name "isinstance" p) [e, .Name "bool" p2] [] pos) (tCB (fun xs H Q => ∃ x T, xs = [x, .ty "bool"] ∧ tyn H x = some T ∧ Q (.bl (T == "bool")) H) (tCons te (tCons (tC (.ty "bool")) tNil))) :=
 pe_callB call_isBool hg N.isin boot_isinstance (pa_cons he (pa_cons (pe_bltn hg2 N.tbool boot_bool rfl) pa_nil) hs1) (he := hs1) (hpl := hpl)
def spWhole : Sp := fun vs H Q _ => ∃ v, vs = [v] ∧ Kn H v ∧ Q (.bl (isI v)) H
def spWithin : Sp := fun vs H Q _ => ∃ v lo hi, vs = [v, .int lo, .int hi] ∧ Kn H v ∧ Q (.bl (inI v lo hi)) H
end HN
namespace HN
open PySem L2 PyProof.Rows
structure Sn where
 s : Int
 g : Int
 l : Int
 o : Int
 w : Int
abbrev Sn.row (x : Sn) : List Int := [x.s, x.g, x.l, x.o, x.w]
abbrev netP (b m : Int) (sp : List Sn) : Dt := .tup [.int b, .int m, .tup (sp.map fun x => .tup (x.row.map Dt.int))]
theorem netP_of {H : Hp} {v : V} {b m : Int} {sp : List Sn} (h : IsD H v (netP b m sp)) : ∃ t p ys, v = .ref t ∧ H t = some (.tup [.int b, .int m, .ref p]) ∧ H p = some (.tup ys) ∧ ys.length = sp.length ∧ ∀ (i : Nat) (x : Sn), sp[i]? = some x → ∃ q, ys[i]? = some (.ref q) ∧ H q = some (.tup [.int x.s, .int x.g, .int x.l, .int x.o, .int x.w]) := by
 obtain ⟨t, xs, rfl, ht, rx⟩ := h.tup_of
 cases rx with
 | cons h0 r0 =>
  cases r0 with
  | cons h1 r1 =>
   cases r1 with
   | cons h2 r2 =>
    cases r2
    cases h0
    cases h1
    obtain ⟨p, ys, rfl, hp, ry⟩ := h2.tup_of
    refine ⟨t, p, ys, rfl, ht, hp, by rw [ry.length, List.length_map], fun i x hx => ?_⟩
    obtain ⟨y, hy, dy⟩ := ry.at (i := i) (d := .tup (x.row.map Dt.int)) (by rw [List.getElem?_map, hx]; rfl)
    obtain ⟨q, zs, rfl, hq, rz⟩ := dy.tup_of
    have ez := rz.ints_of
    subst ez
    exact ⟨q, hy, hq⟩
def tm (ts : List Int) (i : Int) : Int := ts.getD i.toNat 0
theorem tm_at {ts : List Int} {i : Int} (h0 : 0 ≤ i) (h1 : i < ts.length) : atI (ts.map V.int) i = some (.int (tm ts i)) := by
 obtain ⟨j, rfl⟩ := Int.eq_ofNat_of_zero_le h0
 refine atI_nat ?_
 rw [List.getElem?_map, gE (by omega)]
 unfold tm
 rw [Int.toNat_natCast, List.getD_eq_getElem?_getD, gE (by omega)]
 rfl
structure Rdy (b : Int) (ts : List Int) (sp : List Sn) : Prop where
 b1 : 0 < b
 few : sp.length ≤ 1000
 ends : ∀ x ∈ sp, 0 ≤ x.s ∧ x.s < ts.length ∧ 0 ≤ x.g ∧ x.g < ts.length
def waitM (b : Int) (ts : List Int) (x : Sn) : Int := (tm ts x.g - tm ts x.s - x.l) % b
def waitsM (b : Int) (ts : List Int) (sp : List Sn) : List Int := sp.map (waitM b ts)
def brk (b : Int) (ts : List Int) (x : Sn) : Bool := decide (x.o - x.l < waitM b ts x)
def fitsM (b : Int) (ts : List Int) (sp : List Sn) : Bool := !(sp.any (brk b ts))
def waitOfM (b : Int) (ts : List Int) (sp : List Sn) : Int := (sp.map fun x => x.w * waitM b ts x).sum
def movedL (b k : Int) (ns : List Int) : List Int := ns.map fun n => (n + k) % b
theorem small_le {n : Nat} (h : n ≤ 1000) : n ≤ sizeLine := Nat.le_trans h (by decide)
structure Nt (mg : Str → Option Value) : Prop where
 range : mg "range" = none
 enum : mg "enumerate" = none
 zip : mg "zip" = none
 sum : mg "sum" = none
 tlist : mg "list" = none
 max : mg "max" = none
structure SnOk (b m : Int) (x : Sn) : Prop where
 s0 : 0 ≤ x.s
 s1 : x.s < m
 g0 : 0 ≤ x.g
 g1 : x.g < m
 ne : x.s ≠ x.g
 l0 : 0 ≤ x.l
 lo : x.l ≤ x.o
 ob : x.o < x.l + b
 o60 : x.o < 10 ^ 60
 w0 : 0 ≤ x.w
 w1 : x.w ≤ 1000000000000
structure NetT (b m : Int) (sp : List Sn) : Prop where
 b1 : 1 ≤ b
 b2 : b ≤ 10 ^ 59
 m1 : 1 ≤ m
 m2 : m ≤ 16
 few : sp.length ≤ 40
 all : ∀ x ∈ sp, SnOk b m x
theorem NetT.rdy {b m : Int} {sp : List Sn} {ts : List Int} (h : NetT b m sp) (ht : (ts.length : Int) = m) : Rdy b ts sp :=
 ⟨by have := h.b1; omega, by have := h.few; omega, fun x hx => by have := h.all x hx; exact ⟨this.s0, by have := this.s1; omega, this.g0, by have := this.g1; omega⟩⟩
theorem NetT.ws {b m : Int} {sp : List Sn} (h : NetT b m sp) : ∀ x ∈ sp, 0 ≤ x.w ∧ x.w ≤ 1000000000000 := fun x hx => ⟨(h.all x hx).w0, (h.all x hx).w1⟩
theorem rest_two (x y l b : Int) : (x % b - y % b - l) % b = (x - y - l) % b := by
 have hx := Int.mul_ediv_add_emod x b
 have hy := Int.mul_ediv_add_emod y b
 have e : x - y - l = (x % b - y % b - l) + b * (x / b - y / b) := by rw [Int.mul_sub]; omega
 rw [e, Int.add_mul_emod_self_left]
theorem Rdy.moved {b k : Int} {ts : List Int} {sp : List Sn} (R : Rdy b ts sp) : Rdy b (movedL b k ts) sp :=
 ⟨R.b1, R.few, fun x hx => by unfold movedL; rw [List.length_map]; exact R.ends x hx⟩
def spFits : Sp := fun vs H Q _ => ∃ v u b m sp ts, vs = [v, .ref u] ∧ IsD H v (netP b m sp) ∧ H u = some (.tup (ts.map V.int)) ∧ Rdy b ts sp ∧ ∀ H', Same H H' → Q (.bl (fitsM b ts sp)) H'
def spWaitOf : Sp := fun vs H Q _ => ∃ v u b m sp ts, vs = [v, .ref u] ∧ IsD H v (netP b m sp) ∧ H u = some (.tup (ts.map V.int)) ∧ Rdy b ts sp ∧ (∀ x ∈ sp, 0 ≤ x.w ∧ x.w ≤ 1000000000000) ∧ ∀ H', Same H H' → Q (.int (waitOfM b ts sp)) H'
end HN
namespace HN
open PySem L2 PyProof.Rows
def Mb (p : Addr) (H H' : Hp) : Prop := (∀ b o, b ≠ p → H b = some o → H' b = some o) ∧ ∃ x y, H' p = some (.lst [.int x, .int y])
theorem Mb.refl {p : Addr} {H : Hp} {x y : Int} (h : H p = some (.lst [.int x, .int y])) : Mb p H H := ⟨fun _ _ _ e => e, x, y, h⟩
theorem Mb.trans {p : Addr} {H H1 H2 : Hp} (a : Mb p H H1) (b : Mb p H1 H2) : Mb p H H2 := ⟨fun c o hc e => b.1 c o hc (a.1 c o hc e), b.2⟩
theorem Mb.then {p : Addr} {H H1 H2 : Hp} (a : Mb p H H1) (e : Same H1 H2) : Mb p H H2 := ⟨fun c o hc q => e _ _ (a.1 c o hc q), let ⟨x, y, h⟩ := a.2; ⟨x, y, e _ _ h⟩⟩
theorem Mb.at {p q : Addr} {H H1 : Hp} {o : HO} (a : Mb p H H1) (h : H q = some o) (hne : q ≠ p) : H1 q = some o := a.1 q o hne h
theorem Same.mb {p : Addr} {H H1 H2 : Hp} (e : Same H H1) (hp : H p = none) (m : Mb p H1 H2) : Same H H2 := fun b o q => m.1 b o (fun z => by rw [z, hp] at q; cases q) (e b o q)
theorem atI_in {α : Type} {xs : List α} {r : Int} (h0 : 0 ≤ r) (h1 : r < xs.length) : ∃ v, atI xs r = some v ∧ v ∈ xs := by
 obtain ⟨j, rfl⟩ := Int.eq_ofNat_of_zero_le h0
 have hj : j < xs.length := by omega
 exact ⟨xs[j], atI_nat (gE hj), List.getElem_mem hj⟩
theorem log_ok {m : Int} (h0 : 0 < m) (h : m < 10 ^ 61) : 0 < m ∧ m.natAbs.log2 < 9000 := by
 refine ⟨h0, ?_⟩
 have h1 : m.natAbs < 2 ^ 300 := by
  have : (10 : Nat) ^ 61 < 2 ^ 300 := by decide +kernel
  have h2 : m.natAbs < 10 ^ 61 := by omega
  exact Nat.lt_trans h2 this
 have h3 : m.natAbs ≠ 0 := by omega
 have := (Nat.log2_lt h3).mpr h1
 omega
theorem goal_ok {s t m : Int} (h0 : 0 ≤ s) (h1 : s < m) (h2 : 0 ≤ t) (h3 : t < m - 1) : 0 ≤ (s + 1 + t) % m ∧ (s + 1 + t) % m < m ∧ s ≠ (s + 1 + t) % m := by
 have hm : 0 < m := by omega
 have a := Int.emod_nonneg (s + 1 + t) (by omega : m ≠ 0)
 have b := Int.emod_lt_of_pos (s + 1 + t) hm
 refine ⟨a, b, ?_⟩
 by_cases q : s + 1 + t < m
 ·rw [Int.emod_eq_of_lt (by omega) q]; omega
 ·have e : (s + 1 + t) % m = (s + 1 + t - m) % m := (Int.sub_emod_right _ _).symm
  rw [e, Int.emod_eq_of_lt (by omega) (by omega)]; omega
end HN
namespace HN
open PySem L2 PyProof.Rows
abbrev rowsP {α : Type} (f : α → List Int) (xs : List α) : Dt := .tup (xs.map fun x => .tup ((f x).map Dt.int))
theorem rows_at {α : Type} {f : α → List Int} {H : Hp} {xs : List α} {ys : List V} (r : IsDs H ys (xs.map fun x => .tup ((f x).map Dt.int))) {i : Nat} {x : α} (hx : xs[i]? = some x) : ∃ q, ys[i]? = some (.ref q) ∧ H q = some (.tup ((f x).map V.int)) := by
 obtain ⟨y, hy, dy⟩ := r.at (i := i) (d := .tup ((f x).map Dt.int)) (by rw [List.getElem?_map, hx]; rfl)
 obtain ⟨q, zs, rfl, hq, rz⟩ := dy.tup_of
 have ez := rz.ints_of
 subst ez
 exact ⟨q, hy, hq⟩
theorem rows_of {α : Type} {f : α → List Int} {H : Hp} {v : V} {xs : List α} (h : IsD H v (rowsP f xs)) : ∃ p ys, v = .ref p ∧ H p = some (.tup ys) ∧ ys.length = xs.length ∧ IsDs H ys (xs.map fun x => .tup ((f x).map Dt.int)) := by
 obtain ⟨p, ys, rfl, hp, ry⟩ := h.tup_of
 exact ⟨p, ys, rfl, hp, by rw [ry.length, List.length_map], ry⟩
structure Stp where
 i : Nat
 d : Int
abbrev Stp.row (s : Stp) : List Int := [(s.i : Int), s.d]
abbrev wayP (ws : List Stp) : Dt := rowsP Stp.row ws
abbrev bndR (p : Int × Int) : List Int := [p.1, p.2]
abbrev bndP (bs : List (Int × Int)) : Dt := rowsP bndR bs
def frm (x : Sn) (d : Int) : Int := if d = 1 then x.s else x.g
def too (x : Sn) (d : Int) : Int := if d = 1 then x.g else x.s
def WayIn (n : Nat) (ws : List Stp) : Prop := ∀ s ∈ ws, s.i < n ∧ (s.d = 1 ∨ s.d = -1)
def frmS (sp : List Sn) (s : Stp) : Int := match sp[s.i]? with | some x => frm x s.d | none => 0
def tooS (sp : List Sn) (s : Stp) : Int := match sp[s.i]? with | some x => too x s.d | none => 0
def lowS (bs : List (Int × Int)) (s : Stp) : Int := match bs[s.i]? with | some p => if s.d = 1 then p.1 else -p.2 | none => 0
def highS (bs : List (Int × Int)) (s : Stp) : Int := match bs[s.i]? with | some p => if s.d = 1 then p.2 else -p.1 | none => 0
def sumLo (bs : List (Int × Int)) (ws : List Stp) : Int := (ws.map (lowS bs)).sum
def sumHi (bs : List (Int × Int)) (ws : List Stp) : Int := (ws.map (highS bs)).sum
theorem atI_last {α : Type} {xs : List α} {x : α} (h : xs[xs.length - 1]? = some x) : atI xs (-1) = some x := by
 have hl : xs.length - 1 < xs.length := (List.getElem?_eq_some_iff.mp h).1
 unfold atI ixN
 rw [if_neg (by decide), if_pos (by omega)]
 show xs[(-1 + (xs.length : Int)).toNat]? = some x
 rw [show (-1 + (xs.length : Int)).toNat = xs.length - 1 by omega]
 exact h
def spFrom : Sp := fun vs H Q _ => ∃ (v : V) (q : Addr) (b m : Int) (sp : List Sn) (s : Stp) (x : Sn), vs = [v, .ref q] ∧ IsD H v (netP b m sp) ∧ H q = some (.tup (s.row.map V.int)) ∧ sp[s.i]? = some x ∧ Q (.int (frm x s.d)) H
def spTo : Sp := fun vs H Q _ => ∃ (v : V) (q : Addr) (b m : Int) (sp : List Sn) (s : Stp) (x : Sn), vs = [v, .ref q] ∧ IsD H v (netP b m sp) ∧ H q = some (.tup (s.row.map V.int)) ∧ sp[s.i]? = some x ∧ Q (.int (too x s.d)) H
def spFirst : Sp := fun vs H Q _ => ∃ (v : V) (b m : Int) (sp : List Sn), vs = [v] ∧ IsD H v (netP b m sp) ∧ sp.length ≤ 1000 ∧ ∀ u H', Same H H' → IsD H' u (bndP (sp.map fun x => (x.l, x.o))) → Q u H'
def spSum : Sp := fun vs H Q _ => ∃ (vb vw : V) (bs : List (Int × Int)) (ws : List Stp), vs = [vb, vw] ∧ IsD H vb (bndP bs) ∧ IsD H vw (wayP ws) ∧ WayIn bs.length ws ∧ ∀ p H', Same H H' → H' p = some (.tup [.int (sumLo bs ws), .int (sumHi bs ws)]) → Q (.ref p) H'
end HN
namespace HN
open PySem L2 PyProof.Rows
def StepV (n : Nat) (H : Hp) (v : V) : Prop := ∃ (q : Addr) (s : Stp), v = .ref q ∧ H q = some (.tup (s.row.map V.int)) ∧ s.i < n ∧ (s.d = 1 ∨ s.d = -1)
def PairV (H : Hp) (v : V) : Prop := ∃ (q : Addr) (a b : Int), v = .ref q ∧ H q = some (.tup [.int a, .int b])
theorem StepV.same {n : Nat} {H H' : Hp} {v : V} (e : Same H H') (h : StepV n H v) : StepV n H' v := let ⟨q, s, a, b, c⟩ := h; ⟨q, s, a, e _ _ b, c⟩
theorem PairV.same {H H' : Hp} {v : V} (e : Same H H') (h : PairV H v) : PairV H' v := let ⟨q, s, t, a, b⟩ := h; ⟨q, s, t, a, e _ _ b⟩
theorem StepV.but {n : Nat} {H H' : Hp} {v : V} {p : Addr} {xs : List V} (hp : H p = some (.lst xs)) (e : ∀ b o, b ≠ p → H b = some o → H' b = some o) (h : StepV n H v) : StepV n H' v := by
 obtain ⟨q, s, a, b, c⟩ := h
 exact ⟨q, s, a, e _ _ (ne_of b hp (by intro z; cases z)) b, c⟩
theorem PairV.but {H H' : Hp} {v : V} {p : Addr} {xs : List V} (hp : H p = some (.lst xs)) (e : ∀ b o, b ≠ p → H b = some o → H' b = some o) (h : PairV H v) : PairV H' v := by
 obtain ⟨q, s, t, a, b⟩ := h
 exact ⟨q, s, t, a, e _ _ (ne_of b hp (by intro z; cases z)) b⟩
def spLeads : Sp := fun vs H Q _ => ∃ (v : V) (q : Addr) (b m : Int) (sp : List Sn) (s : Stp) (x : Sn), vs = [v, .ref q] ∧ IsD H v (netP b m sp) ∧ H q = some (.tup (s.row.map V.int)) ∧ sp[s.i]? = some x ∧ (s.d = 1 ∨ s.d = -1) ∧ ∀ p H', Same H H' → H' p = some (.tup [.int (frm x s.d), .int (too x s.d)]) → Q (.ref p) H'
end HN
namespace HN
open PySem L2 PyProof.Rows
def negS (s : Stp) : Stp := ⟨s.i, 0 - s.d⟩
def backW (ws : List Stp) : List Stp := ws.reverse.map negS
theorem backW_in {n : Nat} {ws : List Stp} (h : WayIn n ws) : WayIn n (backW ws) := fun s hs => by
 unfold backW at hs
 obtain ⟨t, ht, rfl⟩ := List.mem_map.mp hs
 obtain ⟨a, b⟩ := h t (List.mem_reverse.mp ht)
 exact ⟨a, by show 0 - t.d = 1 ∨ 0 - t.d = -1; omega⟩
theorem backW_len (ws : List Stp) : (backW ws).length = ws.length := by unfold backW; rw [List.length_map, List.length_reverse]
abbrev rowsD {α : Type} (f : α → List Int) (xs : List α) : List Dt := xs.map fun x => .tup ((f x).map Dt.int)
end HN
namespace HN
open PySem L2 PyProof.Rows
structure N3 (mg : Str → Option Value) : Prop where
 tset : mg "set" = none
def inD (d : Dt) (lo hi : Int) : Bool := match d with
 | .int i => decide (lo ≤ i) && decide (i ≤ hi)
 | _ => false
theorem inI_inD {H : Hp} {x : V} {d : Dt} (lo hi : Int) (h : IsD H x d) : inI x lo hi = inD d lo hi := by cases h <;> rfl
def stepD (n : Nat) : Dt → Option Stp
 | .tup [.int i, .int k] => if 0 ≤ i ∧ i ≤ (n : Int) - 1 ∧ (k = 1 ∨ k = -1) then some ⟨i.toNat, k⟩ else none
 | _ => none
def stepB (n : Nat) (d : Dt) : Bool := (stepD n d).isSome
theorem stepD_of {n : Nat} {d : Dt} {s : Stp} (h : stepD n d = some s) : d = .tup (s.row.map Dt.int) ∧ s.i < n ∧ (s.d = 1 ∨ s.d = -1) := by
 unfold stepD at h
 split at h
 ·rename_i i k
  split at h
  ·rename_i hc
   obtain ⟨h0, h1, h2⟩ := hc
   cases h
   refine ⟨?_, by show i.toNat < n; omega, h2⟩
   show Dt.tup [.int i, .int k] = .tup [.int ((i.toNat : Nat) : Int), .int k]
   rw [Int.toNat_of_nonneg h0]
  ·cases h
 ·cases h
theorem stepB_len {n : Nat} {ds : List Dt} (h : ds.length ≠ 2) : stepB n (.tup ds) = false := by
 unfold stepB
 cases q : stepD n (.tup ds) with
 | none => rfl
 | some s =>
  obtain ⟨e, _⟩ := stepD_of q
  injection e with e
  rw [e] at h
  exact absurd rfl h
theorem stepD_row {n : Nat} {s : Stp} (h : s.i < n ∧ (s.d = 1 ∨ s.d = -1)) : stepD n (.tup (s.row.map Dt.int)) = some s := by
 show (if 0 ≤ (s.i : Int) ∧ (s.i : Int) ≤ (n : Int) - 1 ∧ (s.d = 1 ∨ s.d = -1) then some (⟨((s.i : Nat) : Int).toNat, s.d⟩ : Stp) else none) = some s
 rw [if_pos ⟨by omega, by omega, h.2⟩, Int.toNat_natCast]
theorem all_steps {n : Nat} : ∀ (ds : List Dt), ds.all (stepB n) = true → ∃ ss : List Stp, ds = rowsD Stp.row ss ∧ WayIn n ss
 | [], _ => ⟨[], rfl, fun _ h => absurd h (by simp)⟩
 | d :: ds, h => by
  rw [List.all_cons, Bool.and_eq_true] at h
  obtain ⟨ss, e, hs⟩ := all_steps ds h.2
  cases q : stepD n d with
  | none => unfold stepB at h; rw [q] at h; exact absurd h.1 (by decide)
  | some s =>
   obtain ⟨e1, e2⟩ := stepD_of q
   refine ⟨s :: ss, by rw [e1, e]; rfl, fun t ht => ?_⟩
   rcases List.mem_cons.mp ht with rfl | ht
   ·exact e2
   ·exact hs t ht
theorem rows_steps {n : Nat} : ∀ (ss : List Stp), WayIn n ss → (rowsD Stp.row ss).filterMap (stepD n) = ss ∧ (rowsD Stp.row ss).all (stepB n) = true
 | [], _ => ⟨rfl, rfl⟩
 | s :: ss, h => by
  obtain ⟨h1, h2⟩ := rows_steps ss fun t ht => h t (List.mem_cons_of_mem _ ht)
  have e := stepD_row (h s (by simp))
  unfold rowsD at h1 h2 ⊢
  rw [List.map_cons, List.filterMap_cons, e, List.all_cons]
  refine ⟨by rw [h1], ?_⟩
  rw [h2]
  unfold stepB
  rw [e]; rfl
def zipB (sp : List Sn) (ss : List Stp) : Bool := (ss.zip ss.tail).all fun p => decide (tooS sp p.1 = frmS sp p.2)
def wayB (sp : List Sn) (d : Dt) : Bool := match d with
 | .tup ds => !ds.isEmpty && (ds.all (stepB sp.length) && zipB sp (ds.filterMap (stepD sp.length)))
 | _ => false
def fstB (sp : List Sn) (ss : List Stp) : Int := match ss[0]? with | some s => frmS sp s | none => 0
def lstB (sp : List Sn) (ss : List Stp) : Int := match ss[ss.length - 1]? with | some s => tooS sp s | none => 0
def numsS (ss : List Stp) : List Int := ss.map fun s => (s.i : Int)
def ringOf (sp : List Sn) (ss : List Stp) : Bool := decide (2 ≤ ss.length) && (decide ((metL (numsS ss)).length = ss.length) && decide (fstB sp ss = lstB sp ss))
def ringB (sp : List Sn) (d : Dt) : Bool := match d with
 | .tup ds => wayB sp (.tup ds) && ringOf sp (ds.filterMap (stepD sp.length))
 | _ => false
abbrev Fine (d : Dt) : Prop := ∀ ds, d = .tup ds → ds.length ≤ 1000 ∧ ∀ e ∈ ds, ∀ x y, e = .tup [x, .int y] → y.natAbs < 10 ^ 400
def spStep : Sp := fun vs H Q _ => ∃ (v u : V) (b m : Int) (sp : List Sn) (d : Dt), vs = [v, u] ∧ IsD H v (netP b m sp) ∧ IsD H u d ∧ Q (.bl (stepB sp.length d)) H
def spWayP : Sp := fun vs H Q _ => ∃ (v u : V) (b m : Int) (sp : List Sn) (d : Dt), vs = [v, u] ∧ IsD H v (netP b m sp) ∧ IsD H u d ∧ Fine d ∧ ∀ H', Same H H' → Q (.bl (wayB sp d)) H'
def spRingP : Sp := fun vs H Q _ => ∃ (v u : V) (b m : Int) (sp : List Sn) (d : Dt), vs = [v, u] ∧ IsD H v (netP b m sp) ∧ IsD H u d ∧ Fine d ∧ ∀ H', Same H H' → Q (.bl (ringB sp d)) H'
theorem numsS_take {ss : List Stp} {i : Nat} (h : i < ss.length) : numsS (ss.take (i + 1)) = numsS (ss.take i) ++ [(ss[i].i : Int)] := by
 unfold numsS
 rw [List.take_add_one, gE h, List.map_append]; rfl
end HN
namespace HN
open PySem L2 PyProof.Rows
def TupK (H H' : Hp) : Prop := ∀ q xs, H q = some (.tup xs) → H' q = some (.tup xs)
theorem TupK.refl (H : Hp) : TupK H H := fun _ _ h => h
theorem TupK.trans {H H1 H2 : Hp} (a : TupK H H1) (b : TupK H1 H2) : TupK H H2 := fun q xs h => b q xs (a q xs h)
theorem Same.tupK {H H' : Hp} (e : Same H H') : TupK H H' := fun _ _ h => e _ _ h
theorem Mb.tupK {p : Addr} {H H' : Hp} {xs : List V} (hp : H p = some (.lst xs)) (M : Mb p H H') : TupK H H' := fun q ys h => M.1 q _ (ne_of h hp (by intro z; cases z)) h
theorem tupK_upd {H : Hp} {p : Addr} {xs : List V} {o : HO} (hp : H p = some (.lst xs)) : TupK H (upd H p o) := fun q ys h => by rw [upd_ne (ne_of h hp (by intro z; cases z))]; exact h
theorem rows_keep {α : Type} {f : α → List Int} {H H' : Hp} (e : TupK H H') : ∀ {xs : List α} {zs : List V}, IsDs H zs (rowsD f xs) → IsDs H' zs (rowsD f xs)
 | [], _, h => by cases h; exact .nil
 | x :: xs, zs, h => by
  unfold rowsD at h ⊢
  rw [List.map_cons] at h ⊢
  cases h with
  | cons h1 h2 =>
   obtain ⟨q, ws, rfl, hq, rw'⟩ := h1.tup_of
   have e2 := rw'.ints_of
   subst e2
   exact .cons (.tup (e q _ hq) (IsDs.ints _)) (rows_keep e h2)
def BsU (bs : List (Int × Int)) : Prop := ∀ q ∈ bs, 0 ≤ q.1 ∧ q.1 ≤ q.2 ∧ q.2 < 10 ^ 60
def PairW (H : Hp) (v : V) : Prop := ∃ (q : Addr) (a b : Int), v = .ref q ∧ H q = some (.tup [.int a, .int b]) ∧ 0 ≤ a ∧ a ≤ b ∧ b < 10 ^ 60
theorem PairW.keep {H H' : Hp} {v : V} (e : TupK H H') (h : PairW H v) : PairW H' v := let ⟨q, s, t, a, b, c⟩ := h; ⟨q, s, t, a, e _ _ b, c⟩
theorem PairW.same {H H' : Hp} {v : V} (e : Same H H') (h : PairW H v) : PairW H' v := h.keep (Same.tupK e)
theorem PairW.but {H H' : Hp} {v : V} {p : Addr} {xs : List V} (hp : H p = some (.lst xs)) (e : ∀ b o, b ≠ p → H b = some o → H' b = some o) (h : PairW H v) : PairW H' v := by
 obtain ⟨q, s, t, a, b, c⟩ := h
 exact ⟨q, s, t, a, e _ _ (ne_of b hp (by intro z; cases z)) b, c⟩
def upB (b s : Int) : Int := -(-s / b)
def Rounds (hs : List Int) (n : Nat) (sp : List Sn) (ws : List Stp) : Prop := ∀ i, i < n → ∃ d x, ws[i]? = some ⟨i, d⟩ ∧ sp[i]? = some x ∧ (d = 1 ∨ d = -1) ∧ some (frm x d) = hs[i]? ∧ some (too x d) = hs[(i + 1) % hs.length]?
theorem Rounds.more {hs : List Int} {n : Nat} {sp : List Sn} {ws : List Stp} (h : Rounds hs n sp ws) (x : List Sn) (y : List Stp) : Rounds hs n (sp ++ x) (ws ++ y) := fun i hi => by
 obtain ⟨d, z, h1, h2, h3⟩ := h i hi
 have a1 := (List.getElem?_eq_some_iff.mp h1).1
 have a2 := (List.getElem?_eq_some_iff.mp h2).1
 exact ⟨d, z, by rw [List.getElem?_append_left a1]; exact h1, by rw [List.getElem?_append_left a2]; exact h2, h3⟩
theorem Rounds.inn {hs : List Int} {sp : List Sn} {ws : List Stp} (h : Rounds hs ws.length sp ws) : WayIn sp.length ws := fun s hs' => by
 obtain ⟨i, hi, e⟩ := List.mem_iff_getElem.mp hs'
 obtain ⟨d, x, h1, h2, h3, _⟩ := h i hi
 rw [gE hi] at h1
 cases h1.symm.trans (congrArg some e)
 exact ⟨(List.getElem?_eq_some_iff.mp h2).1, h3⟩
theorem Rounds.at {hs : List Int} {n : Nat} {sp : List Sn} {ws : List Stp} (h : Rounds hs n sp ws) {i : Nat} (hi : i < n) : ∃ s, ws[i]? = some s ∧ s.i = i ∧ some (frmS sp s) = hs[i]? ∧ some (tooS sp s) = hs[(i + 1) % hs.length]? := by
 obtain ⟨d, x, h1, h2, h3, h4, h5⟩ := h i hi
 refine ⟨⟨i, d⟩, h1, rfl, ?_, ?_⟩
 ·unfold frmS; rw [h2]; exact h4
 ·unfold tooS; rw [h2]; exact h5
theorem met_range : ∀ n, n ≤ 8 → (metL ((List.range n).map Int.ofNat)).length = n := by decide +kernel
theorem Rounds.ring {hs : List Int} {sp : List Sn} {ws : List Stp} (h : Rounds hs ws.length sp ws) (hl : hs.length = ws.length) (h2 : 2 ≤ ws.length) (h8 : ws.length ≤ 8) : ringB sp (wayP ws) = true := by
 have hin := h.inn
 obtain ⟨r1, r2⟩ := rows_steps ws hin
 show (wayB sp (.tup (rowsD Stp.row ws)) && ringOf sp ((rowsD Stp.row ws).filterMap (stepD sp.length))) = true
 rw [r1]
 show ((!(rowsD Stp.row ws).isEmpty && ((rowsD Stp.row ws).all (stepB sp.length) && zipB sp ((rowsD Stp.row ws).filterMap (stepD sp.length)))) && ringOf sp ws) = true
 rw [r1, r2]
 have e0 : (rowsD Stp.row ws).isEmpty = false := by
  cases ws with
  | nil => exact absurd h2 (by simp)
  | cons _ _ => rfl
 have e1 : zipB sp ws = true := by
  unfold zipB
  refine List.all_eq_true.mpr fun p hp => ?_
  obtain ⟨j, hj, e⟩ := List.mem_iff_getElem.mp hp
  have hj2 : j + 1 < ws.length := by rw [List.length_zip, List.length_tail] at hj; omega
  rw [List.getElem_zip, List.getElem_tail] at e
  obtain ⟨s, a1, _, _, a4⟩ := h.at (i := j) (by omega)
  obtain ⟨t, b1, _, b3, _⟩ := h.at (i := j + 1) hj2
  rw [gE (by omega)] at a1
  rw [gE hj2] at b1
  have a1 := Option.some.inj a1
  have b1 := Option.some.inj b1
  rw [← e, a1, b1]
  refine decide_eq_true ?_
  show tooS sp s = frmS sp t
  rw [Nat.mod_eq_of_lt (by omega), ← b3] at a4
  exact Option.some.inj a4
 have e2 : numsS ws = (List.range ws.length).map Int.ofNat := by
  refine List.ext_getElem? fun i => ?_
  unfold numsS
  rw [List.getElem?_map, List.getElem?_map]
  by_cases hi : i < ws.length
  ·obtain ⟨s, a1, a2, _⟩ := h.at hi
   rw [a1, List.getElem?_range hi]
   show some ((s.i : Nat) : Int) = some (Int.ofNat i)
   rw [Int.ofNat_eq_natCast]
   rw [a2]
  ·rw [List.getElem?_eq_none (by omega), List.getElem?_eq_none (by rw [List.length_range]; omega)]; rfl
 have e3 : ringOf sp ws = true := by
  unfold ringOf
  rw [e2, met_range _ h8, decide_eq_true rfl, decide_eq_true h2]
  refine decide_eq_true ?_
  obtain ⟨s, a1, _, a3, _⟩ := h.at (i := 0) (by omega)
  obtain ⟨t, b1, _, _, b4⟩ := h.at (i := ws.length - 1) (by omega)
  unfold fstB lstB
  rw [a1, b1]
  show frmS sp s = tooS sp t
  rw [show ws.length - 1 + 1 = ws.length by omega, hl, Nat.mod_self, ← a3] at b4
  exact (Option.some.inj b4).symm
 rw [e0, e1, e3]; rfl
def spBeats : Sp := fun vs H Q _ => ∃ (vn vb vw : V) (b m : Int) (sp : List Sn) (bs : List (Int × Int)) (ws : List Stp), vs = [vn, vb, vw] ∧ IsD H vn (netP b m sp) ∧ 0 < b ∧ b < 10 ^ 61 ∧ IsD H vb (bndP bs) ∧ IsD H vw (wayP ws) ∧ WayIn bs.length ws ∧
 ∀ p H', Same H H' → H' p = some (.tup [.int (upB b (sumLo bs ws)), .int (sumHi bs ws / b)]) → Q (.ref p) H'
end HN
namespace HN
open PySem L2 PyProof.Rows
def Dk (p : Addr) (H : Hp) : Prop := ∃ (k : Int) (ns : List Int), H p = some (.lst ((k :: ns).map V.int)) ∧ ns.length ≤ 1000
def Md (p : Addr) (H H' : Hp) : Prop := (∀ b o, b ≠ p → H b = some o → H' b = some o) ∧ Dk p H'
theorem Md.refl {p : Addr} {H : Hp} (h : Dk p H) : Md p H H := ⟨fun _ _ _ e => e, h⟩
theorem Md.trans {p : Addr} {H H1 H2 : Hp} (a : Md p H H1) (b : Md p H1 H2) : Md p H H2 := ⟨fun c o hc e => b.1 c o hc (a.1 c o hc e), b.2⟩
theorem Dk.same {p : Addr} {H H1 : Hp} (h : Dk p H) (e : Same H H1) : Dk p H1 := let ⟨k, ns, a, b⟩ := h; ⟨k, ns, e _ _ a, b⟩
theorem Md.then {p : Addr} {H H1 H2 : Hp} (a : Md p H H1) (e : Same H1 H2) : Md p H H2 := ⟨fun c o hc q => e _ _ (a.1 c o hc q), a.2.same e⟩
theorem Md.at {p q : Addr} {H H1 : Hp} {o : HO} (a : Md p H H1) (h : H q = some o) (hne : q ≠ p) : H1 q = some o := a.1 q o hne h
theorem Md.tupK {p : Addr} {H H' : Hp} (hp : Dk p H) (M : Md p H H') : TupK H H' := fun q ys h => by
 obtain ⟨k, ns, e, _⟩ := hp
 exact M.1 q _ (ne_of h e (by intro z; cases z)) h
theorem Dk.ne {p q : Addr} {H : Hp} (h : Dk p H) (hq : H q = none) : q ≠ p := fun z => by obtain ⟨k, ns, e, _⟩ := h; rw [z, e] at hq; cases hq
def spDrawD : Sp := fun vs H Q _ => ∃ (p : Addr) (m : Int), vs = [.ref p, .int m] ∧ Dk p H ∧ 0 < m ∧ m < 10 ^ 61 ∧ ∀ r H', 0 ≤ r → r < m → Md p H H' → Q (.int r) H'
def spSpanD : Sp := fun vs H Q _ => ∃ (p h : Addr) (b m : Int) (hs : List Int) (k : Bool), vs = [.ref p, .int b, .int m, .ref h, .bl k] ∧ Dk p H ∧ 1 ≤ b ∧ b ≤ 10 ^ 33 ∧ 2 ≤ m ∧ m ≤ 16 ∧ H h = some (.tup (hs.map V.int)) ∧ (hs.length : Int) = m ∧
 ∀ t (z : Sn) H', Md p H H' → H' t = some (.tup (z.row.map V.int)) → SnOk b m z → Q (.ref t) H'
end HN
namespace HN
open PySem L2 PyProof.Rows
inductive Lf where
 | ring (ws : List Stp)
 | price (rows : List (Int × List Stp))
abbrev rowD (r : Int × List Stp) : Dt := .tup [.int r.1, wayP r.2]
def leafP : Lf → Dt
 | .ring ws => .tup [.str "ring", wayP ws]
 | .price rows => .tup [.str "price", .tup (rows.map rowD)]
def deadB (b : Int) (bs : List (Int × Int)) (ws : List Stp) : Bool := decide (upB b (sumLo bs ws) > sumHi bs ws / b)
def sureB (b : Int) (bs : List (Int × Int)) (ws : List Stp) : Bool := decide (upB b (sumLo bs ws) = sumHi bs ws / b)
def rightB (b : Int) (bs : List (Int × Int)) : Lf → Bool
 | .ring ws => deadB b bs ws
 | .price rows => rows.all fun r => sureB b bs r.2
def LfIn (n : Nat) : Lf → Prop
 | .ring ws => WayIn n ws
 | .price rows => rows.length ≤ 1000 ∧ ∀ r ∈ rows, WayIn n r.2
def spDead : Sp := fun vs H Q _ => ∃ (vn vb vw : V) (b m : Int) (sp : List Sn) (bs : List (Int × Int)) (ws : List Stp), vs = [vn, vb, vw] ∧ IsD H vn (netP b m sp) ∧ 0 < b ∧ b < 10 ^ 61 ∧ IsD H vb (bndP bs) ∧ IsD H vw (wayP ws) ∧ WayIn bs.length ws ∧ ∀ H', Same H H' → Q (.bl (deadB b bs ws)) H'
def spSure : Sp := fun vs H Q _ => ∃ (vn vb vw : V) (b m : Int) (sp : List Sn) (bs : List (Int × Int)) (ws : List Stp), vs = [vn, vb, vw] ∧ IsD H vn (netP b m sp) ∧ 0 < b ∧ b < 10 ^ 61 ∧ IsD H vb (bndP bs) ∧ IsD H vw (wayP ws) ∧ WayIn bs.length ws ∧ ∀ H', Same H H' → Q (.bl (sureB b bs ws)) H'
def spIsRight : Sp := fun vs H Q _ => ∃ (vn vb vl : V) (b m : Int) (sp : List Sn) (bs : List (Int × Int)) (lf : Lf), vs = [vn, vb, vl] ∧ IsD H vn (netP b m sp) ∧ 0 < b ∧ b < 10 ^ 61 ∧ IsD H vb (bndP bs) ∧ IsD H vl (leafP lf) ∧ LfIn bs.length lf ∧ ∀ H', Same H H' → Q (.bl (rightB b bs lf)) H'
end HN
namespace HN
open PySem L2 PyProof.Rows
theorem IsDs.takeN {H : Hp} : ∀ {xs : List V} {ds : List Dt} (n : Nat), IsDs H xs ds → IsDs H (xs.take n) (ds.take n)
 | _, _, 0, _ => .nil
 | _, _, _ + 1, .nil => .nil
 | _, _, n + 1, .cons h r => .cons h (IsDs.takeN n r)
theorem IsDs.dropN {H : Hp} : ∀ {xs : List V} {ds : List Dt} (n : Nat), IsDs H xs ds → IsDs H (xs.drop n) (ds.drop n)
 | _, _, 0, h => h
 | _, _, _ + 1, .nil => .nil
 | _, _, n + 1, .cons _ r => IsDs.dropN n r
def Along (sp : List Sn) : Int → List Stp → Int → Prop
 | x, [], y => x = y
 | x, s :: ws, y => frmS sp s = x ∧ Along sp (tooS sp s) ws y
theorem Along.append {sp : List Sn} : ∀ {us : List Stp} {x y z : Int} {vs : List Stp}, Along sp x us y → Along sp y vs z → Along sp x (us ++ vs) z
 | [], _, _, _, _, h, k => by cases h; exact k
 | _ :: us, _, _, _, _, h, k => ⟨h.1, Along.append (us := us) h.2 k⟩
theorem Along.split {sp : List Sn} : ∀ {us : List Stp} {x z : Int} {vs : List Stp}, Along sp x (us ++ vs) z → ∃ y, Along sp x us y ∧ Along sp y vs z
 | [], x, _, _, h => ⟨x, rfl, h⟩
 | _ :: us, _, _, _, h => let ⟨y, a, b⟩ := Along.split (us := us) h.2; ⟨y, ⟨h.1, a⟩, b⟩
theorem frmS_at {sp : List Sn} {j : Nat} {d : Int} (h : j < sp.length) : frmS sp ⟨j, d⟩ = frm sp[j] d := by
 unfold frmS
 show (match sp[j]? with | some x => frm x d | none => 0) = _
 rw [gE h]
theorem tooS_at {sp : List Sn} {j : Nat} {d : Int} (h : j < sp.length) : tooS sp ⟨j, d⟩ = too sp[j] d := by
 unfold tooS
 show (match sp[j]? with | some x => too x d | none => 0) = _
 rw [gE h]
theorem ends_of_span {sp : List Sn} {st : Stp} {j : Nat} {d : Int} (h : j < sp.length) (e : st.i = j) (hs : st.d = 1 ∨ st.d = -1) (hd : d = 1 ∨ d = -1) : tooS sp st = tooS sp ⟨j, d⟩ ∨ frmS sp st = tooS sp ⟨j, d⟩ := by
 obtain ⟨i, dd⟩ := st
 have e : i = j := e
 subst e
 have hs : dd = 1 ∨ dd = -1 := hs
 rw [tooS_at h, tooS_at h, frmS_at h]
 unfold too frm
 rcases hs with rfl | rfl <;> rcases hd with rfl | rfl <;> simp
structure Bk (sp : List Sn) (be ou : Int) (x : Int) (ws : List Stp) : Prop where
 inn : WayIn sp.length ws
 alo : Along sp be ws x
 one : (ws.map Stp.i).Nodup
 out : ∀ s ∈ ws, (s.i : Int) ≠ ou
theorem Bk.more {sp : List Sn} {be ou x to : Int} {ws : List Stp} {j : Nat} {d : Int} (h : Bk sp be ou x ws) (hj : j < sp.length) (hd : d = 1 ∨ d = -1) (h1 : frmS sp ⟨j, d⟩ = x) (h2 : tooS sp ⟨j, d⟩ = to) (ho : ((j : Nat) : Int) ≠ ou) (hn : ∀ st ∈ ws, st.i = j → False) : Bk sp be ou to (ws ++ [⟨j, d⟩]) := by
 refine ⟨fun s hs => ?_, h.alo.append ⟨h1, h2⟩, ?_, fun s hs => ?_⟩
 ·rcases List.mem_append.mp hs with hs | hs
  ·exact h.inn s hs
  ·rw [List.mem_singleton.mp hs]; exact ⟨hj, hd⟩
 ·rw [List.map_append]
  refine List.nodup_append.mpr ⟨h.one, by simp, fun a ha b hb e => ?_⟩
  obtain ⟨st, hst, rfl⟩ := List.mem_map.mp ha
  have hb : b = j := by simpa using hb
  exact hn st hst (by rw [e, hb])
 ·rcases List.mem_append.mp hs with hs | hs
  ·exact h.out s hs
  ·rw [List.mem_singleton.mp hs]; exact ho
structure Rg (sp : List Sn) (ws : List Stp) : Prop where
 inn : WayIn sp.length ws
 two : 2 ≤ ws.length
 few : ws.length ≤ 17
 one : (ws.map Stp.i).Nodup
 rnd : ∃ x, Along sp x ws x
theorem Bk.ring {sp : List Sn} {k : Nat} {ws : List Stp} (hk : k < sp.length) (hne : sp[k].s ≠ sp[k].g) (h : Bk sp sp[k].g (k : Nat) sp[k].s ws) (hl : ws.length ≤ 16) : Rg sp (⟨k, 1⟩ :: ws) := by
 refine ⟨fun s hs => ?_, ?_, by rw [List.length_cons]; omega, ?_, sp[k].s, ?_, ?_⟩
 ·rcases List.mem_cons.mp hs with rfl | hs
  ·exact ⟨hk, .inl rfl⟩
  ·exact h.inn s hs
 ·cases ws with
  | nil => exact absurd h.alo.symm hne
  | cons a r => rw [List.length_cons, List.length_cons]; omega
 ·rw [List.map_cons, List.nodup_cons]
  refine ⟨fun z => ?_, h.one⟩
  obtain ⟨st, hst, e⟩ := List.mem_map.mp z
  exact h.out st hst (by rw [e])
 ·rw [frmS_at hk]; rfl
 ·rw [tooS_at hk]; exact h.alo
theorem Rg.turn {sp : List Sn} {us vs : List Stp} (h : Rg sp (us ++ vs)) : Rg sp (vs ++ us) := by
 obtain ⟨x, hx⟩ := h.rnd
 obtain ⟨y, h1, h2⟩ := hx.split
 refine ⟨fun s hs => h.inn s ?_, ?_, ?_, ?_, y, h2.append h1⟩
 ·exact List.mem_append.mpr (List.mem_append.mp hs).symm
 ·have := h.two; rw [List.length_append] at this ⊢; omega
 ·have := h.few; rw [List.length_append] at this ⊢; omega
 ·have := h.one
  rw [List.map_append] at this ⊢
  obtain ⟨a, b, c⟩ := List.nodup_append.mp this
  exact List.nodup_append.mpr ⟨b, a, fun p hp q hq e => c q hq p hp e.symm⟩
theorem ends_neg {sp : List Sn} {s : Stp} (h : s.i < sp.length ∧ (s.d = 1 ∨ s.d = -1)) : frmS sp (negS s) = tooS sp s ∧ tooS sp (negS s) = frmS sp s := by
 obtain ⟨i, d⟩ := s
 obtain ⟨hi, hd⟩ := h
 have hi : i < sp.length := hi
 have hd : d = 1 ∨ d = -1 := hd
 show frmS sp ⟨i, 0 - d⟩ = _ ∧ tooS sp ⟨i, 0 - d⟩ = _
 rw [frmS_at hi, tooS_at hi, frmS_at hi, tooS_at hi]
 unfold frm too
 rcases hd with rfl | rfl <;> simp
theorem Along.back {sp : List Sn} : ∀ {ws : List Stp} {x y : Int}, WayIn sp.length ws → Along sp x ws y → Along sp y (backW ws) x
 | [], _, _, _, h => by cases h; rfl
 | s :: ws, x, y, hw, h => by
  have e : backW (s :: ws) = backW ws ++ [negS s] := by unfold backW; rw [List.reverse_cons, List.map_append]; rfl
  rw [e]
  obtain ⟨h1, h2⟩ := h
  obtain ⟨e1, e2⟩ := ends_neg (hw s (by simp))
  exact (Along.back (fun t ht => hw t (List.mem_cons_of_mem _ ht)) h2).append ⟨e1, by rw [e2]; exact h1⟩
theorem Rg.back {sp : List Sn} {ws : List Stp} (h : Rg sp ws) : Rg sp (backW ws) := by
 obtain ⟨x, hx⟩ := h.rnd
 refine ⟨backW_in h.inn, by rw [backW_len]; exact h.two, by rw [backW_len]; exact h.few, ?_, x, hx.back h.inn⟩
 have e : (backW ws).map Stp.i = (ws.map Stp.i).reverse := by
  unfold backW
  rw [List.map_map, ← List.map_reverse]
  rfl
 rw [e]
 exact List.pairwise_reverse.mpr (h.one.imp fun a => a.symm)
end HN
namespace HN
open PySem L2 PyProof.Rows
theorem pe_isStrT {X : Cx} {e : Expr} {te : TE} {p p2 pos : Pos} (N : Nm X.mg) (TS : X.mg "str" = none) (he : PE X e te) (hg : Gl X "isinstance" := by rfl) (hg2 : Gl X "str" := by rfl)
  (hs1 : starEach [e, .Name "str" p2] X.env = (false, eval e X.env) :: starEach [.Name "str" p2] X.env := by rfl) (hpl : (backTo pos (starEach [.Name "str" p2] X.env)).any (·.1) = false := by rfl) :
  PE X (.Call (.Name "isinstance" p) [e, .Name "str" p2] [] pos) (tCB (fun xs H Q => ∃ x T, xs = [x, .ty "str"] ∧ tyn H x = some T ∧ Q (.bl (T == "str")) H) (tCons te (tCons (tC (.ty "str")) tNil))) :=
 pe_callB call_isStr hg N.isin boot_isinstance (pa_cons he (pa_cons (pe_bltn hg2 TS boot_str rfl) pa_nil) hs1) (he := hs1) (hpl := hpl)
theorem ty_tup {H : Hp} {u : V} {d : Dt} (hd : IsD H u d) (h : (d.ty == "tuple") = true) : ∃ ds, d = .tup ds := by
 cases d with
 | tup ds => exact ⟨ds, rfl⟩
 | oth T => cases hd <;> simp [Dt.ty] at h
 | _ => simp [Dt.ty] at h
theorem ty_str {H : Hp} {u : V} {d : Dt} (hd : IsD H u d) (h : (d.ty == "str") = true) : ∃ x, d = .str x := by
 cases d with
 | str x => exact ⟨x, rfl⟩
 | oth T => cases hd <;> simp [Dt.ty] at h
 | _ => simp [Dt.ty] at h
def headB (w : Str) (n : Int) (d : Dt) : Bool := match d with
 | .tup ds => decide ((ds.length : Int) = n) && (match ds.head? with | some (Dt.str x) => decide (x = w) | _ => false)
 | _ => false
theorem head_no {H : Hp} {u : V} {w : Str} {n : Int} {d : Dt} (hd : IsD H u d) (h : ¬ (d.ty == "tuple") = true) : headB w n d = false := by
 cases d with
 | tup ds => exact absurd rfl h
 | _ => rfl
theorem head_of {w : Str} {n : Nat} {d : Dt} (h : headB w n d = true) : ∃ ds, d = .tup ds ∧ ds.length = n ∧ ds.head? = some (Dt.str w) := by
 unfold headB at h
 split at h
 ·rename_i ds
  rw [Bool.and_eq_true] at h
  obtain ⟨h1, h2⟩ := h
  refine ⟨ds, rfl, by have := of_decide_eq_true h1; omega, ?_⟩
  split at h2
  ·rename_i x hx
   rw [hx, of_decide_eq_true h2]
  ·cases h2
 ·cases h
def cutB (bs : List (Int × Int)) (d : Dt) : Bool := match d with
 | .tup [.str w, .int k, a, _, _] => decide (w = "cut") && (decide (0 ≤ k) && decide (k ≤ (bs.length : Int) - 1)) && (match bs[k.toNat]? with | some p => inD a p.1 (p.2 - 1) | none => false)
 | _ => false
def rowB (sp : List Sn) (d : Dt) : Bool := match d with
 | .tup [.int _, r] => ringB sp r
 | _ => false
def rowsB (sp : List Sn) (d : Dt) : Bool := match d with
 | .tup rows => decide (rows.length ≤ 40) && rows.all (rowB sp)
 | _ => false
def leafB (sp : List Sn) (d : Dt) : Bool := match d with
 | .tup [.str w, x] => if w = "ring" then ringB sp x else if w = "price" then rowsB sp x else false
 | _ => false
def FineL (d : Dt) : Prop := ∀ w x, d = .tup [w, x] → Fine x ∧ ∀ rows, x = .tup rows → ∀ r ∈ rows, ∀ p y, r = .tup [p, y] → Fine y
def spHeaded : Sp := fun vs H Q _ => ∃ (u : V) (w : Str) (n : Int) (d : Dt), vs = [u, .str w, .int n] ∧ IsD H u d ∧ 1 ≤ n ∧ Q (.bl (headB w n d)) H
def spCut : Sp := fun vs H Q _ => ∃ (vb u : V) (bs : List (Int × Int)) (d : Dt), vs = [vb, u] ∧ IsD H vb (bndP bs) ∧ IsD H u d ∧ Q (.bl (cutB bs d)) H
def spRowT : Sp := fun vs H Q _ => ∃ (v u : V) (b m : Int) (sp : List Sn) (d : Dt), vs = [v, u] ∧ IsD H v (netP b m sp) ∧ IsD H u d ∧ (∀ p y, d = .tup [p, y] → Fine y) ∧ ∀ H', Same H H' → Q (.bl (rowB sp d)) H'
def spLeafT : Sp := fun vs H Q _ => ∃ (v u : V) (b m : Int) (sp : List Sn) (d : Dt), vs = [v, u] ∧ IsD H v (netP b m sp) ∧ IsD H u d ∧ FineL d ∧ ∀ H', Same H H' → Q (.bl (leafB sp d)) H'
def spWithB : Sp := fun vs H Q _ => ∃ (vb : V) (k : Nat) (lo hi : Int) (bs : List (Int × Int)), vs = [vb, .int (k : Nat), .int lo, .int hi] ∧ IsD H vb (bndP bs) ∧ k < bs.length ∧ bs.length ≤ 40 ∧ ∀ u H', Same H H' → IsD H' u (bndP (bs.set k (lo, hi))) → Q u H'
inductive Tq where
 | leaf (d : Dt)
 | cut (k : Nat) (a : Int) (x y : Tq)
def treeD : Tq → Dt
 | .leaf d => d
 | .cut k a x y => .tup [.str "cut", .int (k : Nat), .int a, treeD x, treeD y]
def oneB (bs : List (Int × Int)) (k : Nat) (a : Int) : List (Int × Int) := bs.set k ((bs.getD k (0, 0)).1, a)
def otherB (bs : List (Int × Int)) (k : Nat) (a : Int) : List (Int × Int) := bs.set k (a + 1, (bs.getD k (0, 0)).2)
def lvs : Tq → List (Int × Int) → List (List (Int × Int) × Dt)
 | .leaf d, bs => [(bs, d)]
 | .cut k a x y, bs => lvs x (oneB bs k a) ++ lvs y (otherB bs k a)
def CutsOk : Tq → List (Int × Int) → Prop
 | .leaf d, bs => cutB bs d = false ∧ FineL d
 | .cut k a x y, bs => k < bs.length ∧ (bs.getD k (0, 0)).1 ≤ a ∧ a < (bs.getD k (0, 0)).2 ∧ CutsOk x (oneB bs k a) ∧ CutsOk y (otherB bs k a)
def siz : Tq → Nat
 | .leaf _ => 1
 | .cut _ _ x y => siz x + siz y + 1
theorem cut_true {k : Nat} {a : Int} {x y : Tq} {bs : List (Int × Int)} (h : CutsOk (.cut k a x y) bs) : cutB bs (treeD (.cut k a x y)) = true := by
 obtain ⟨h1, h2, h3, _⟩ := h
 show (decide (("cut" : Str) = "cut") && (decide ((0 : Int) ≤ (k : Nat)) && decide (((k : Nat) : Int) ≤ (bs.length : Int) - 1)) && (match bs[((k : Nat) : Int).toNat]? with | some p => inD (.int a) p.1 (p.2 - 1) | none => false)) = true
 have e : bs[((k : Nat) : Int).toNat]? = some bs[k] := by rw [Int.toNat_natCast, gE h1]
 have e2 : bs.getD k (0, 0) = bs[k] := by rw [List.getD_eq_getElem?_getD, gE h1]; rfl
 rw [e2] at h2 h3
 rw [e, decide_eq_true rfl, decide_eq_true (by omega), decide_eq_true (by omega)]
 show (true && (true && true) && (decide (bs[k].1 ≤ a) && decide (a ≤ bs[k].2 - 1))) = true
 rw [decide_eq_true h2, decide_eq_true (by omega)]; rfl
def plcD (p : List (Int × Int) × Dt) : Dt := .tup [bndP p.1, p.2]
def spSides : Sp := fun vs H Q _ => ∃ (vb : V) (c : Addr) (bs : List (Int × Int)) (k : Nat) (a : Int) (x3 x4 : V), vs = [vb, .ref c] ∧ IsD H vb (bndP bs) ∧ H c = some (.tup [.str "cut", .int (k : Nat), .int a, x3, x4]) ∧ k < bs.length ∧ bs.length ≤ 40 ∧
 ∀ p q r u1 u3 H', Same H H' → H' p = some (.tup [.ref q, .ref r]) → H' q = some (.tup [u1, x3]) → IsD H' u1 (bndP (oneB bs k a)) → H' r = some (.tup [u3, x4]) → IsD H' u3 (bndP (otherB bs k a)) → Q (.ref p) H'
def spLeavesIn : Sp := fun vs H Q _ => ∃ (v u : V) (b m : Int) (sp : List Sn) (t : Tq), vs = [v, u] ∧ IsD H v (netP b m sp) ∧ IsD H u (treeD t) ∧ sp.length ≤ 40 ∧ CutsOk t (sp.map fun x => (x.l, x.o)) ∧ siz t ≤ 2000 ∧
 ∀ res H', Same H H' → (if (lvs t (sp.map fun x => (x.l, x.o))).all (fun p => leafB sp p.2) = true then ∃ L ys, res = .ref L ∧ H L = none ∧ H' L = some (.lst ys) ∧ IsDs H' ys ((lvs t (sp.map fun x => (x.l, x.o))).map plcD) else res = .non) → Q res H'
theorem lvs_siz : ∀ (t : Tq) (bs : List (Int × Int)), (lvs t bs).length ≤ siz t
 | .leaf _, _ => by show 1 ≤ 1; decide
 | .cut k a x y, bs => by
  show (lvs x _ ++ lvs y _).length ≤ siz x + siz y + 1
  rw [List.length_append]
  have := lvs_siz x (oneB bs k a)
  have := lvs_siz y (otherB bs k a)
  omega
theorem one_len (bs : List (Int × Int)) (k : Nat) (a : Int) : (oneB bs k a).length = bs.length := by unfold oneB; rw [List.length_set]
theorem other_len (bs : List (Int × Int)) (k : Nat) (a : Int) : (otherB bs k a).length = bs.length := by unfold otherB; rw [List.length_set]
end HN
namespace HN
open PySem L2 PyProof.Rows
theorem getD_all (ns : List Int) : ((List.range ns.length).map fun i => ns.getD i 0) = ns := by
 refine List.ext_getElem (by rw [List.length_map, List.length_range]) fun i h1 h2 => ?_
 rw [List.getElem_map, List.getElem_range, List.getD_eq_getElem?_getD, gE h2]
 rfl
theorem met_eq (ns : List Int) : metL ns = ns.foldl step_dedup [] := by
 unfold metL firstMet
 rw [getD_all]
theorem fold_new : ∀ (ns acc : List Int), ns.Nodup → (∀ x ∈ ns, x ∉ acc) → ns.foldl step_dedup acc = acc ++ ns
 | [], acc, _, _ => by simp
 | x :: ns, acc, hn, h => by
  obtain ⟨h1, h2⟩ := List.nodup_cons.mp hn
  have e : step_dedup acc x = acc ++ [x] := by
   unfold step_dedup
   have : ¬ (acc.any (· == x)) = true := by
    intro z
    obtain ⟨y, hy, e⟩ := List.any_eq_true.mp z
    have e : y = x := by simpa using e
    exact h x (by simp) (e ▸ hy)
   rw [if_neg this]
  rw [List.foldl_cons, e, fold_new ns (acc ++ [x]) h2 fun y hy z => ?_]
  ·simp
  ·rcases List.mem_append.mp z with z | z
   ·exact h y (List.mem_cons_of_mem _ hy) z
   ·rw [List.mem_singleton.mp z] at hy; exact h1 hy
theorem met_nodup {ns : List Int} (h : ns.Nodup) : (metL ns).length = ns.length := by
 rw [met_eq, fold_new ns [] h (fun _ _ z => absurd z (by simp)), List.nil_append]
end HN
namespace L2
open PySem PyProof.Rows HN
mutual
theorem IsD.keepP {H H' : Hp} (e : TupK H H') : ∀ {v : V} {d : Dt}, IsD H v d → pl d = true → IsD H' v d
 | _, _, .non, _ => .non
 | _, _, .bl b, _ => .bl b
 | _, _, .int i, _ => .int i
 | _, _, .str x, _ => .str x
 | _, _, .tup h r, p => .tup (e _ _ h) (IsDs.keepP e r (by unfold pl at p; exact p))
 | _, _, .lst h, p => by unfold pl at p; cases p
 | _, _, .dct h, p => by unfold pl at p; cases p
theorem IsDs.keepP {H H' : Hp} (e : TupK H H') : ∀ {xs : List V} {ds : List Dt}, IsDs H xs ds → pls ds = true → IsDs H' xs ds
 | _, _, .nil, _ => .nil
 | _, _, .cons h r, p => by
  unfold pls at p
  rw [Bool.and_eq_true] at p
  exact .cons (IsD.keepP e h p.1) (IsDs.keepP e r p.2)
end
end L2
namespace HN
open PySem L2 PyProof.Rows
theorem pls_map {α : Type} {f : α → Dt} : ∀ (xs : List α), (∀ x ∈ xs, pl (f x) = true) → pls (xs.map f) = true
 | [], _ => by show pls [] = true; unfold pls; rfl
 | x :: xs, h => by
  show pls (f x :: xs.map f) = true
  unfold pls
  rw [h x (by simp), pls_map xs fun y hy => h y (List.mem_cons_of_mem _ hy)]; rfl
theorem pl_ints (ns : List Int) : pl (.tup (ns.map Dt.int)) = true := by
 unfold pl
 exact pls_map ns fun x _ => by unfold pl; rfl
theorem pl_rows {α : Type} (f : α → List Int) (xs : List α) : pl (rowsP f xs) = true := by
 unfold rowsP
 unfold pl
 exact pls_map xs fun x _ => pl_ints (f x)
def RowOk (b : Int) (sp : List Sn) (bs : List (Int × Int)) (r : Int × List Stp) : Prop := Rg sp r.2 ∧ sureB b bs r.2 = true ∧ -1000000000000 ≤ r.1 ∧ r.1 ≤ 1000000000000
def LfOk (b : Int) (sp : List Sn) (bs : List (Int × Int)) : Lf → Prop
 | .ring ws => Rg sp ws ∧ deadB b bs ws = true
 | .price rows => rows.length ≤ 40 ∧ ∀ r ∈ rows, RowOk b sp bs r
def DrT (b : Int) (sp : List Sn) : Tq → List (Int × Int) → Prop
 | .leaf d, bs => ∃ lf, d = leafP lf ∧ LfOk b sp bs lf
 | .cut k a x y, bs => k < bs.length ∧ (bs.getD k (0, 0)).1 ≤ a ∧ a < (bs.getD k (0, 0)).2 ∧ DrT b sp x (oneB bs k a) ∧ DrT b sp y (otherB bs k a)
def dpT : Tq → Nat
 | .leaf _ => 0
 | .cut _ _ x y => max (dpT x) (dpT y) + 1
theorem fine_ring {sp : List Sn} {ws : List Stp} (h : Rg sp ws) : Fine (wayP ws) := fun ds e => by
 injection e with e
 subst e
 refine ⟨by rw [List.length_map]; have := h.few; omega, fun e he x y ee => ?_⟩
 obtain ⟨s, hs, rfl⟩ := List.mem_map.mp he
 injection ee with e2
 injection e2 with e3 e4
 injection e4 with e5 e6
 injection e5 with e7
 have h1 : y.natAbs = 1 := by rw [← e7]; rcases (h.inn s hs).2 with d | d <;> rw [d] <;> rfl
 rw [h1]
 exact (by decide +kernel : 1 < 10 ^ 400)
theorem Along.zip {sp : List Sn} : ∀ {ws : List Stp} {x y : Int}, Along sp x ws y → zipB sp ws = true
 | [], _, _, _ => rfl
 | [s], _, _, _ => rfl
 | s :: t :: ws, x, y, h => by
  obtain ⟨_, h2⟩ := h
  have h3 := h2.1
  have ih := Along.zip h2
  show (decide (tooS sp s = frmS sp t) && zipB sp (t :: ws)) = true
  rw [ih, decide_eq_true h3.symm]; rfl
theorem Along.ends {sp : List Sn} : ∀ {ws : List Stp} {x y : Int}, ws ≠ [] → Along sp x ws y → fstB sp ws = x ∧ lstB sp ws = y
 | [], _, _, h, _ => absurd rfl h
 | [s], x, y, _, h => by
  obtain ⟨h1, h2⟩ := h
  exact ⟨h1, h2⟩
 | s :: t :: ws, x, y, _, h => by
  obtain ⟨h1, h2⟩ := h
  refine ⟨h1, ?_⟩
  have := (Along.ends (ws := t :: ws) (by simp) h2).2
  rw [← this]
  unfold lstB
  simp
theorem Rg.isRing {sp : List Sn} {ws : List Stp} (h : Rg sp ws) : ringB sp (wayP ws) = true := by
 obtain ⟨x, hx⟩ := h.rnd
 have two := h.two
 have hne : ws ≠ [] := fun z => by rw [z] at two; simp at two
 obtain ⟨e1, e2⟩ := rows_steps ws h.inn
 show (wayB sp (.tup (rowsD Stp.row ws)) && ringOf sp ((rowsD Stp.row ws).filterMap (stepD sp.length))) = true
 rw [e1]
 have hw : wayB sp (.tup (rowsD Stp.row ws)) = true := by
  show (!(rowsD Stp.row ws).isEmpty && ((rowsD Stp.row ws).all (stepB sp.length) && zipB sp ((rowsD Stp.row ws).filterMap (stepD sp.length)))) = true
  rw [e1, e2, hx.zip]
  cases ws with
  | nil => exact absurd rfl hne
  | cons _ _ => rfl
 rw [hw]
 show (true && (decide (2 ≤ ws.length) && (decide ((metL (numsS ws)).length = ws.length) && decide (fstB sp ws = lstB sp ws)))) = true
 obtain ⟨f1, f2⟩ := hx.ends hne
 have hn : (numsS ws).Nodup := by
  unfold numsS
  have : ws.map (fun s => (s.i : Int)) = (ws.map Stp.i).map fun n : Nat => (n : Int) := by rw [List.map_map]; rfl
  rw [this, List.nodup_iff_pairwise_ne, List.pairwise_map]
  exact (List.nodup_iff_pairwise_ne.mp h.one).imp fun hh e => hh (by omega)
 have hl : (metL (numsS ws)).length = ws.length := by rw [met_nodup hn]; unfold numsS; rw [List.length_map]
 rw [decide_eq_true two, decide_eq_true hl, decide_eq_true (by rw [f1, f2])]; rfl
theorem leaf_ok {b : Int} {sp : List Sn} {bs : List (Int × Int)} {lf : Lf} (h : LfOk b sp bs lf) : leafB sp (leafP lf) = true ∧ FineL (leafP lf) ∧ cutB bs (leafP lf) = false := by
 cases lf with
 | ring ws =>
  obtain ⟨h1, _⟩ := h
  refine ⟨?_, fun w x e => ?_, rfl⟩
  ·show (if ("ring" : Str) = "ring" then ringB sp (wayP ws) else if ("ring" : Str) = "price" then rowsB sp (wayP ws) else false) = true
   rw [if_pos rfl]; exact h1.isRing
  ·injection e with e
   injection e with e1 e2
   injection e2 with e3 e4
   subst e3
   refine ⟨fine_ring h1, fun rows er r hr p y ey => ?_⟩
   injection er with er
   subst er
   obtain ⟨s, hs, rfl⟩ := List.mem_map.mp hr
   injection ey with ey
   injection ey with e5 e6
   injection e6 with e7 e8
   intro ds ed
   rw [← e7] at ed
   cases ed
 | price rows =>
  obtain ⟨h1, h2⟩ := h
  refine ⟨?_, fun w x e => ?_, rfl⟩
  ·show (if ("price" : Str) = "ring" then ringB sp (.tup (rows.map rowD)) else if ("price" : Str) = "price" then rowsB sp (.tup (rows.map rowD)) else false) = true
   rw [if_neg (by decide), if_pos rfl]
   show (decide ((rows.map rowD).length ≤ 40) && (rows.map rowD).all (rowB sp)) = true
   rw [decide_eq_true (by rw [List.length_map]; exact h1), List.all_map, Bool.true_and, List.all_eq_true]
   intro r hr
   exact (h2 r hr).1.isRing
  ·injection e with e
   injection e with e1 e2
   injection e2 with e3 e4
   subst e3
   refine ⟨fun ds ed => ?_, fun rows' er r hr p y ey => ?_⟩
   ·injection ed with ed
    subst ed
    refine ⟨by rw [List.length_map]; omega, fun e he x y ee => ?_⟩
    obtain ⟨r, hr, rfl⟩ := List.mem_map.mp he
    injection ee with e5
    injection e5 with e6 e7
    injection e7 with e8 e9
    cases e8
   ·injection er with er
    subst er
    obtain ⟨r', hr', rfl⟩ := List.mem_map.mp hr
    injection ey with e5
    injection e5 with e6 e7
    injection e7 with e8 e9
    rw [← e8]
    exact fine_ring (h2 r' hr').1
theorem drT_cuts {b : Int} {sp : List Sn} : ∀ (t : Tq) (bs : List (Int × Int)), DrT b sp t bs → CutsOk t bs ∧ ((lvs t bs).all fun p => leafB sp p.2) = true
 | .leaf d, bs, h => by
  obtain ⟨lf, rfl, h⟩ := h
  obtain ⟨h1, h2, h3⟩ := leaf_ok h
  exact ⟨⟨h3, h2⟩, by show (leafB sp (leafP lf) && true) = true; rw [h1]; rfl⟩
 | .cut k a x y, bs, h => by
  obtain ⟨h1, h2, h3, h4, h5⟩ := h
  obtain ⟨a1, a2⟩ := drT_cuts x _ h4
  obtain ⟨b1, b2⟩ := drT_cuts y _ h5
  refine ⟨⟨h1, h2, h3, a1, b1⟩, ?_⟩
  show ((lvs x _ ++ lvs y _).all _) = true
  rw [List.all_append, a2, b2]; rfl
theorem set_cat {α : Type} {bs : List α} {n : Nat} {x : α} (hn : n < bs.length) : bs.set n x = bs.take n ++ [x] ++ bs.drop (n + 1) := by
 rw [List.set_eq_take_append_cons_drop, if_pos hn, List.append_assoc]; rfl
end HN
namespace HN
open PySem L2 PyProof.Rows
def stepP (pr : Int) (ps : List Int) (s : Stp) : List Int := ps.set s.i (ps.getD s.i 0 - pr * s.d)
def rowP (ps : List Int) (r : Int × List Stp) : List Int := r.2.foldl (stepP r.1) ps
def ownM (sp : List Sn) (rows : List (Int × List Stp)) : List Int := rows.foldl rowP (sp.map Sn.w)
theorem steps_len {pr : Int} : ∀ (ws : List Stp) (ps : List Int), (ws.foldl (stepP pr) ps).length = ps.length
 | [], _ => rfl
 | s :: ws, ps => by
  rw [List.foldl_cons, steps_len ws]
  unfold stepP
  rw [List.length_set]
theorem rows_len : ∀ (rows : List (Int × List Stp)) (ps : List Int), (rows.foldl rowP ps).length = ps.length
 | [], _ => rfl
 | r :: rows, ps => by
  rw [List.foldl_cons, rows_len rows]
  exact steps_len r.2 ps
theorem own_len (sp : List Sn) (rows : List (Int × List Stp)) : (ownM sp rows).length = sp.length := by
 unfold ownM
 rw [rows_len, List.length_map]
def hasS (k : Nat) (d : Int) (ws : List Stp) : Bool := ws.any fun s => decide (s.i = k) && decide (s.d = d)
def ownV (k : Nat) (acc pr : Int) (ws : List Stp) : Int := if hasS k (-1) ws = true then (if hasS k 1 ws = true then acc - pr else acc) + pr else (if hasS k 1 ws = true then acc - pr else acc)
def ownS (k : Nat) (acc : Int) (r : Int × List Stp) : Int := ownV k acc r.1 r.2
theorem hasS_no {k : Nat} {d : Int} : ∀ {ws : List Stp}, k ∉ ws.map Stp.i → hasS k d ws = false
 | [], _ => rfl
 | s :: ws, h => by
  show (decide (s.i = k) && decide (s.d = d) || hasS k d ws) = false
  rw [hasS_no (ws := ws) fun z => h (by rw [List.map_cons]; exact List.mem_cons_of_mem _ z), decide_eq_false (fun z => h (by rw [List.map_cons, z]; simp))]; rfl
theorem steps_at {k : Nat} {pr : Int} : ∀ (ws : List Stp) (ps : List Int), k < ps.length → (∀ s ∈ ws, s.d = 1 ∨ s.d = -1) → (ws.map Stp.i).Nodup → (ws.foldl (stepP pr) ps).getD k 0 = ownV k (ps.getD k 0) pr ws
 | [], _, _, _, _ => rfl
 | s :: ws, ps, hk, hd, hn => by
  rw [List.map_cons, List.nodup_cons] at hn
  rw [List.foldl_cons, steps_at ws _ (by unfold stepP; rw [List.length_set]; exact hk) (fun t ht => hd t (List.mem_cons_of_mem _ ht)) hn.2]
  by_cases e : s.i = k
  ·have h0 : ∀ d, hasS k d ws = false := fun d => hasS_no (by rw [← e]; exact hn.1)
   have h1 : ∀ d, hasS k d (s :: ws) = decide (s.d = d) := fun d => by
    show (decide (s.i = k) && decide (s.d = d) || hasS k d ws) = _
    rw [h0, decide_eq_true e]; simp
   have h2 : (stepP pr ps s).getD k 0 = ps.getD k 0 - pr * s.d := by
    unfold stepP
    rw [e, List.getD_eq_getElem?_getD, List.getElem?_set_self hk]; rfl
   unfold ownV
   rw [h0, h0, h1, h1, h2]
   rcases hd s (by simp) with d1 | d1
   ·rw [d1]; simp
   ·rw [d1]; simp
  ·have h1 : ∀ d, hasS k d (s :: ws) = hasS k d ws := fun d => by
    show (decide (s.i = k) && decide (s.d = d) || hasS k d ws) = _
    rw [decide_eq_false e]; simp
   have h2 : (stepP pr ps s).getD k 0 = ps.getD k 0 := by
    unfold stepP
    rw [List.getD_eq_getElem?_getD, List.getElem?_set_ne e, ← List.getD_eq_getElem?_getD]
   unfold ownV
   rw [h1, h1, h2]
structure RwOk (n : Nat) (r : Int × List Stp) : Prop where
 inn : WayIn n r.2
 one : (r.2.map Stp.i).Nodup
 few : r.2.length ≤ 17
 lo : -1000000000000 ≤ r.1
 hi : r.1 ≤ 1000000000000
theorem rows_at_own {k n : Nat} : ∀ (rows : List (Int × List Stp)) (ps : List Int), k < ps.length → (∀ r ∈ rows, RwOk n r) → (rows.foldl rowP ps).getD k 0 = rows.foldl (ownS k) (ps.getD k 0)
 | [], _, _, _ => rfl
 | r :: rows, ps, hk, h => by
  have hr := h r (by simp)
  rw [List.foldl_cons, List.foldl_cons, rows_at_own rows _ (by show k < (r.2.foldl (stepP r.1) ps).length; rw [steps_len]; exact hk) fun t ht => h t (List.mem_cons_of_mem _ ht)]
  congr 1
  exact steps_at r.2 ps hk (fun s hs => (hr.inn s hs).2) hr.one
theorem ownS_abs {k n : Nat} : ∀ (rows : List (Int × List Stp)) (a : Int) (m : Nat), a.natAbs ≤ m → (∀ r ∈ rows, RwOk n r) → (rows.foldl (ownS k) a).natAbs ≤ m + rows.length * 2000000000000
 | [], _, _, ha, _ => by simpa using ha
 | r :: rows, a, m, ha, h => by
  have hr := h r (by simp)
  have h1 := hr.lo
  have h2 := hr.hi
  rw [List.foldl_cons]
  have step : (ownS k a r).natAbs ≤ m + 2000000000000 := by
   show (ownV k a r.1 r.2).natAbs ≤ _
   unfold ownV
   split <;> split <;> omega
  have := ownS_abs (k := k) (n := n) rows (ownS k a r) (m + 2000000000000) step fun t ht => h t (List.mem_cons_of_mem _ ht)
  rw [List.length_cons]
  omega
def wOf (sp : List Sn) (k : Nat) : Int := match sp[k]? with | some x => x.w | none => 0
def lOf (sp : List Sn) (k : Nat) : Int := match sp[k]? with | some x => x.l | none => 0
def owK (sp : List Sn) (rows : List (Int × List Stp)) (k : Nat) : Int := rows.foldl (ownS k) (wOf sp k)
theorem own_at {sp : List Sn} {rows : List (Int × List Stp)} {k n : Nat} (hk : k < sp.length) (h : ∀ r ∈ rows, RwOk n r) : (ownM sp rows).getD k 0 = owK sp rows k := by
 unfold ownM owK
 rw [rows_at_own rows _ (by rw [List.length_map]; exact hk) h]
 congr 1
 unfold wOf
 rw [List.getD_eq_getElem?_getD, List.getElem?_map, gE hk]; rfl
theorem owK_abs {sp : List Sn} {rows : List (Int × List Stp)} {k n : Nat} (hw : ∀ x ∈ sp, 0 ≤ x.w ∧ x.w ≤ 1000000000000) (h : ∀ r ∈ rows, RwOk n r) (hl : rows.length ≤ 41) : -18446744073709551616 < owK sp rows k ∧ owK sp rows k < 18446744073709551616 := by
 have := ownS_abs (k := k) rows (wOf sp k) 1000000000000 (by
  unfold wOf
  cases q : sp[k]? with
  | none => exact Nat.zero_le _
  | some x =>
   have := hw x (List.mem_of_getElem? q)
   show x.w.natAbs ≤ _
   omega) h
 unfold owK
 omega
def termW (sp : List Sn) (bs : List (Int × Int)) (rows : List (Int × List Stp)) (k : Nat) : Int := owK sp rows k * (if owK sp rows k < 0 then (bs.getD k (0, 0)).2 else (bs.getD k (0, 0)).1) - wOf sp k * lOf sp k
def rowsW (b : Int) (bs : List (Int × Int)) (rows : List (Int × List Stp)) : Int := (rows.map fun r => r.1 * upB b (sumLo bs r.2) * b).sum
def worthM (b : Int) (sp : List Sn) (bs : List (Int × Int)) (rows : List (Int × List Stp)) : Int := rowsW b bs rows + ((List.range sp.length).map (termW sp bs rows)).sum
theorem div_absW {x b : Int} (hb : 0 < b) : (x / b).natAbs ≤ x.natAbs := by
 have e := Int.mul_ediv_add_emod x b
 have r0 := Int.emod_nonneg x (by omega : b ≠ 0)
 have r1 := Int.emod_lt_of_pos x hb
 generalize x / b = q at e
 generalize x % b = r at e r0 r1
 rcases Int.lt_or_le q 0 with hq | hq
 ·have : b * (q + 1) ≤ 1 * (q + 1) := Int.mul_le_mul_of_nonpos_right (by omega) (by omega)
  rw [Int.mul_add] at this
  omega
 ·have : 1 * q ≤ b * q := Int.mul_le_mul_of_nonneg_right (by omega) hq
  omega
theorem sums_abs17 {bs : List (Int × Int)} : ∀ {ws : List Stp}, BsU bs → (sumLo bs ws).natAbs ≤ ws.length * 10 ^ 60
 | [], _ => Nat.zero_le _
 | s :: ws, h => by
  have ih := sums_abs17 (ws := ws) h
  have k : (lowS bs s).natAbs ≤ 10 ^ 60 := by
   unfold lowS
   cases q : bs[s.i]? with
   | none => exact Nat.zero_le _
   | some p =>
    obtain ⟨a, b, c⟩ := h p (List.mem_of_getElem? q)
    have c : p.2 < 10 ^ 60 := c
    show (if s.d = 1 then p.1 else -p.2).natAbs ≤ _
    split <;> omega
  have e : sumLo bs (s :: ws) = lowS bs s + sumLo bs ws := rfl
  rw [e, List.length_cons, Nat.add_mul]
  omega
theorem up_abs {b : Int} {bs : List (Int × Int)} {ws : List Stp} (hb : 0 < b) (h : BsU bs) (hl : ws.length ≤ 17) : (upB b (sumLo bs ws)).natAbs ≤ 17 * 10 ^ 60 := by
 unfold upB
 rw [Int.natAbs_neg]
 have h1 := div_absW (x := -sumLo bs ws) hb
 rw [Int.natAbs_neg] at h1
 have h2 := sums_abs17 (ws := ws) h
 have h3 : ws.length * 10 ^ 60 ≤ 17 * 10 ^ 60 := Nat.mul_le_mul_right _ hl
 omega
def spOwn : Sp := fun vs H Q _ => ∃ (v : V) (pr : Addr) (b m : Int) (sp : List Sn) (rows : List (Int × List Stp)), vs = [v, .ref pr] ∧ IsD H v (netP b m sp) ∧ sp.length ≤ 40 ∧ IsD H (.ref pr) (.tup (rows.map rowD)) ∧ (∀ r ∈ rows, RwOk sp.length r) ∧
 ∀ L H', Same H H' → H' L = some (.lst ((ownM sp rows).map V.int)) → Q (.ref L) H'
structure WoArgs (H : Hp) (v vb vl : V) (b m : Int) (sp : List Sn) (bs : List (Int × Int)) (rows : List (Int × List Stp)) : Prop where
 net : IsD H v (netP b m sp)
 bnd : IsD H vb (bndP bs)
 leaf : IsD H vl (leafP (.price rows))
 b0 : 0 < b
 b61 : b < 10 ^ 61
 lb : bs.length = sp.length
 few : sp.length ≤ 40
 bu : BsU bs
 ws : ∀ x ∈ sp, 0 ≤ x.w ∧ x.w ≤ 1000000000000
 rw' : ∀ r ∈ rows, RwOk sp.length r
 lr : rows.length ≤ 41
def spWorth : Sp := fun vs H Q _ => ∃ (v vb vl : V) (b m : Int) (sp : List Sn) (bs : List (Int × Int)) (rows : List (Int × List Stp)), vs = [v, vb, vl] ∧ WoArgs H v vb vl b m sp bs rows ∧ ∀ H', Same H H' → Q (.int (worthM b sp bs rows)) H'
end HN
namespace HN
open PySem L2 PyProof.Rows
abbrev Plc := List (Int × Int) × Lf
def plcL (p : Plc) : List (Int × Int) × Dt := (p.1, leafP p.2)
def worthO (b : Int) (sp : List Sn) (p : Plc) : Option Int := match p.2 with | .price rows => some (worthM b sp p.1 rows) | .ring _ => none
def worthsM (b : Int) (sp : List Sn) (ps : List Plc) : List Int := ps.filterMap (worthO b sp)
def rightP (b : Int) (p : Plc) : Bool := rightB b p.1 p.2
def shwD : List Int → Dt
 | [] => .tup [.str "none"]
 | a :: l => .tup [.str "wait", .int (leastI (a :: l))]
structure PlOk (n : Nat) (p : Plc) : Prop where
 len : p.1.length = n
 bu : BsU p.1
 inn : LfIn n p.2
 rws : ∀ rows, p.2 = .price rows → rows.length ≤ 41 ∧ ∀ r ∈ rows, RwOk n r
structure ShArgs (H : Hp) (v u : V) (b m : Int) (sp : List Sn) (t : Tq) (ps : List Plc) : Prop where
 net : IsD H v (netP b m sp)
 tr : IsD H u (treeD t)
 b0 : 0 < b
 b61 : b < 10 ^ 61
 few : sp.length ≤ 40
 ws : ∀ x ∈ sp, 0 ≤ x.w ∧ x.w ≤ 1000000000000
 siz : siz t ≤ 400
 lv : lvs t (sp.map fun x => (x.l, x.o)) = ps.map plcL
 ok : ∀ p ∈ ps, PlOk sp.length p
def ShAns (b : Int) (sp : List Sn) (ps : List Plc) (r : V) (H' : Hp) : Prop := if ps.all (rightP b) = true then IsD H' r (shwD (worthsM b sp ps)) else r = .non
theorem worths_take {b : Int} {sp : List Sn} {ps : List Plc} {i : Nat} (h : i < ps.length) : worthsM b sp (ps.take (i + 1)) = worthsM b sp (ps.take i) ++ (worthO b sp ps[i]).toList := by
 unfold worthsM
 rw [List.take_add_one, gE h, List.filterMap_append]
 congr 1
theorem worths_len {b : Int} {sp : List Sn} (ps : List Plc) : (worthsM b sp ps).length ≤ ps.length := List.length_filterMap_le ..
theorem plc_of {H : Hp} {v : V} {p : Plc} (h : IsD H v (plcD (plcL p))) : ∃ q vb vl, v = .ref q ∧ H q = some (.tup [vb, vl]) ∧ IsD H vb (bndP p.1) ∧ IsD H vl (leafP p.2) := by
 obtain ⟨q, xs, rfl, hq, r⟩ := IsD.tup_of (show IsD H v (.tup [bndP p.1, leafP p.2]) from h)
 cases r with
 | cons g0 gr => cases gr with
  | cons g1 gr =>
   cases gr
   exact ⟨q, _, _, rfl, hq, g0, g1⟩
def wordL : Lf → Str
 | .ring _ => "ring"
 | .price _ => "price"
theorem word_of {H : Hp} {v : V} {l : Lf} (h : IsD H v (leafP l)) : ∃ q x, v = .ref q ∧ H q = some (.tup [.str (wordL l), x]) := by
 cases l with
 | ring ws =>
  obtain ⟨q, xs, rfl, hq, r⟩ := IsD.tup_of (show IsD H v (.tup [.str "ring", wayP ws]) from h)
  cases r with
  | cons g0 gr => cases gr with
   | cons g1 gr =>
    cases gr
    cases g0
    exact ⟨q, _, rfl, hq⟩
 | price rows =>
  obtain ⟨q, xs, rfl, hq, r⟩ := IsD.tup_of (show IsD H v (.tup [.str "price", .tup (rows.map rowD)]) from h)
  cases r with
  | cons g0 gr => cases gr with
   | cons g1 gr =>
    cases gr
    cases g0
    exact ⟨q, _, rfl, hq⟩
end HN
namespace HN
open PySem L2 PyProof.Rows
structure Cq where
 at' : Int
 lf : Bool
 rows : List (Int × List Stp)
def leafC (bs : List (Int × Int)) (c : Cq) : List (Int × Int) := if c.lf = true then oneB bs 0 c.at' else otherB bs 0 c.at'
structure CqOk (b : Int) (sp : List Sn) (bs : List (Int × Int)) (c : Cq) : Prop where
 l : (bs.getD 0 (0, 0)).1 ≤ c.at'
 h : c.at' < (bs.getD 0 (0, 0)).2
 ok : LfOk b sp (leafC bs c) (.price c.rows)
theorem dr_ps {b : Int} {sp : List Sn} : ∀ (t : Tq) (bs : List (Int × Int)), DrT b sp t bs → bs.length = sp.length → BsU bs → ∃ ps : List Plc, lvs t bs = ps.map plcL ∧ ∀ p ∈ ps, p.1.length = sp.length ∧ BsU p.1 ∧ LfOk b sp p.1 p.2
 | .leaf d, bs, h, hl, hu => by
  obtain ⟨lf, rfl, ok⟩ := h
  exact ⟨[(bs, lf)], rfl, fun p hp => by rw [List.mem_singleton.mp hp]; exact ⟨hl, hu, ok⟩⟩
 | .cut k a x y, bs, h, hl, hu => by
  obtain ⟨h1, h2, h3, h4, h5⟩ := h
  have e : bs.getD k (0, 0) ∈ bs := by rw [List.getD_eq_getElem?_getD, gE h1]; exact List.getElem_mem h1
  obtain ⟨u1, u2, u3⟩ := hu _ e
  have o1 : BsU (oneB bs k a) := fun q hq => by
   rcases List.mem_or_eq_of_mem_set hq with z | rfl
   ·exact hu q z
   ·exact ⟨u1, h2, by show a < 10 ^ 60; omega⟩
  have o2 : BsU (otherB bs k a) := fun q hq => by
   rcases List.mem_or_eq_of_mem_set hq with z | rfl
   ·exact hu q z
   ·exact ⟨by show 0 ≤ a + 1; omega, by show a + 1 ≤ _; omega, u3⟩
  obtain ⟨p1, e1, k1⟩ := dr_ps x _ h4 (by rw [one_len]; exact hl) o1
  obtain ⟨p2, e2, k2⟩ := dr_ps y _ h5 (by rw [other_len]; exact hl) o2
  refine ⟨p1 ++ p2, ?_, fun p hp => ?_⟩
  ·show lvs x _ ++ lvs y _ = _
   rw [e1, e2, List.map_append]
  ·rcases List.mem_append.mp hp with z | z
   ·exact k1 p z
   ·exact k2 p z
theorem lf_right {b : Int} {sp : List Sn} {p : Plc} (h : LfOk b sp p.1 p.2) : rightP b p = true := by
 obtain ⟨bs, lf⟩ := p
 cases lf with
 | ring ws => exact h.2
 | price rows => exact List.all_eq_true.mpr fun r hr => (h.2 r hr).2.1
theorem lf_plok {b : Int} {sp : List Sn} {p : Plc} (hl : p.1.length = sp.length) (hu : BsU p.1) (h : LfOk b sp p.1 p.2) : PlOk sp.length p := by
 obtain ⟨bs, lf⟩ := p
 refine ⟨hl, hu, ?_, ?_⟩
 ·cases lf with
  | ring ws => exact h.1.inn
  | price rows => exact ⟨Nat.le_trans h.1 (by decide), fun r hr => (h.2 r hr).1.inn⟩
 ·intro rows e
  have e : lf = .price rows := e
  subst e
  refine ⟨Nat.le_trans h.1 (by decide), fun r hr => ?_⟩
  have q := h.2 r hr
  exact ⟨q.1.inn, q.1.one, q.1.few, q.2.2.1, q.2.2.2⟩
end HN
namespace HN
open PySem L2 PyProof.Rows
def spWaitsN : Sp := fun vs H Q _ => ∃ (v : V) (u : Addr) (b m : Int) (sp : List Sn) (ts : List Int), vs = [v, .ref u] ∧ IsD H v (netP b m sp) ∧ H u = some (.tup (ts.map V.int)) ∧ Rdy b ts sp ∧ ∀ p H', Same H H' → H' p = some (.lst ((waitsM b ts sp).map V.int)) → Q (.ref p) H'
end HN
namespace HN
open PySem L2 PyProof.Rows
def sumN (f : Nat → Int) : Nat → Int
 | 0 => 0
 | n + 1 => sumN f n + f n
theorem sumN_range (f : Nat → Int) : ∀ n, ((List.range n).map f).sum = sumN f n
 | 0 => rfl
 | n + 1 => by
  rw [List.range_succ, List.map_append, List.sum_append, sumN_range f n]
  show sumN f n + (f n + 0) = sumN f n + f n
  omega
theorem sumN_add (f g : Nat → Int) : ∀ n, sumN (fun k => f k + g k) n = sumN f n + sumN g n
 | 0 => rfl
 | n + 1 => by
  show sumN (fun k => f k + g k) n + (f n + g n) = (sumN f n + f n) + (sumN g n + g n)
  rw [sumN_add f g n]; omega
theorem sumN_mul (c : Int) (f : Nat → Int) : ∀ n, sumN (fun k => c * f k) n = c * sumN f n
 | 0 => (Int.mul_zero c).symm
 | n + 1 => by
  show sumN (fun k => c * f k) n + c * f n = c * (sumN f n + f n)
  rw [sumN_mul c f n, Int.mul_add]
theorem sumN_le {f g : Nat → Int} : ∀ n, (∀ k, k < n → f k ≤ g k) → sumN f n ≤ sumN g n
 | 0, _ => Int.le_refl _
 | n + 1, h => by
  have h1 := sumN_le n fun k hk => h k (by omega)
  have h2 := h n (by omega)
  show sumN f n + f n ≤ sumN g n + g n
  omega
theorem sumN_same {f g : Nat → Int} : ∀ n, (∀ k, k < n → f k = g k) → sumN f n = sumN g n
 | 0, _ => rfl
 | n + 1, h => by
  show sumN f n + f n = sumN g n + g n
  rw [sumN_same n fun k hk => h k (by omega), h n (by omega)]
theorem sumN_none {i : Nat} {c : Int} {y : Nat → Int} : ∀ n, n ≤ i → sumN (fun k => (if i = k then c else 0) * y k) n = 0
 | 0, _ => rfl
 | n + 1, h => by
  show sumN (fun k => (if i = k then c else 0) * y k) n + (if i = n then c else 0) * y n = 0
  rw [sumN_none n (by omega), if_neg (by omega), Int.zero_mul]; rfl
theorem sumN_one {i : Nat} {c : Int} {y : Nat → Int} : ∀ n, i < n → sumN (fun k => (if i = k then c else 0) * y k) n = c * y i
 | 0, h => absurd h (by omega)
 | n + 1, h => by
  show sumN (fun k => (if i = k then c else 0) * y k) n + (if i = n then c else 0) * y n = c * y i
  by_cases e : i = n
  ·subst e
   rw [sumN_none i (Nat.le_refl _), if_pos rfl, Int.zero_add]
  ·rw [sumN_one n (by omega), if_neg e, Int.zero_mul, Int.add_zero]
theorem sumN_list {α : Type} (f : α → Int) (xs : List α) : ∀ n, n ≤ xs.length → ((xs.take n).map f).sum = sumN (fun k => match xs[k]? with | some x => f x | none => 0) n
 | 0, _ => rfl
 | n + 1, h => by
  rw [List.take_add_one, gE (by omega), List.map_append, List.sum_append, sumN_list f xs n (by omega)]
  show _ + (f xs[n] + 0) = sumN _ n + (match xs[n]? with | some x => f x | none => 0)
  rw [gE (by omega)]
  show _ + (f xs[n] + 0) = _ + f xs[n]
  omega
def sg (k : Nat) : List Stp → Int
 | [] => 0
 | s :: ws => (if s.i = k then s.d else 0) + sg k ws
def alg (y : Nat → Int) : List Stp → Int
 | [] => 0
 | s :: ws => s.d * y s.i + alg y ws
theorem fold_sg {k : Nat} {pr : Int} : ∀ (ws : List Stp) (ps : List Int), k < ps.length → (ws.foldl (stepP pr) ps).getD k 0 = ps.getD k 0 - pr * sg k ws
 | [], ps, _ => by show ps.getD k 0 = ps.getD k 0 - pr * 0; rw [Int.mul_zero, Int.sub_zero]
 | s :: ws, ps, hk => by
  rw [List.foldl_cons, fold_sg ws _ (by unfold stepP; rw [List.length_set]; exact hk)]
  show _ = ps.getD k 0 - pr * ((if s.i = k then s.d else 0) + sg k ws)
  rw [Int.mul_add]
  by_cases e : s.i = k
  ·have h2 : (stepP pr ps s).getD k 0 = ps.getD k 0 - pr * s.d := by
    unfold stepP
    rw [e, List.getD_eq_getElem?_getD, List.getElem?_set_self hk]; rfl
   rw [h2, if_pos e]; omega
  ·have h2 : (stepP pr ps s).getD k 0 = ps.getD k 0 := by
    unfold stepP
    rw [List.getD_eq_getElem?_getD, List.getElem?_set_ne e, ← List.getD_eq_getElem?_getD]
   rw [h2, if_neg e, Int.mul_zero]; omega
def sgR (k : Nat) : List (Int × List Stp) → Int
 | [] => 0
 | r :: rows => r.1 * sg k r.2 + sgR k rows
theorem rows_sg {k : Nat} : ∀ (rows : List (Int × List Stp)) (ps : List Int), k < ps.length → (rows.foldl rowP ps).getD k 0 = ps.getD k 0 - sgR k rows
 | [], ps, _ => by show ps.getD k 0 = ps.getD k 0 - 0; rw [Int.sub_zero]
 | r :: rows, ps, hk => by
  rw [List.foldl_cons, rows_sg rows _ (by show k < (r.2.foldl (stepP r.1) ps).length; rw [steps_len]; exact hk)]
  show (r.2.foldl (stepP r.1) ps).getD k 0 - sgR k rows = ps.getD k 0 - (r.1 * sg k r.2 + sgR k rows)
  rw [fold_sg r.2 ps hk]; omega
theorem owK_sg {sp : List Sn} {rows : List (Int × List Stp)} {k n : Nat} (hk : k < sp.length) (h : ∀ r ∈ rows, RwOk n r) : owK sp rows k = wOf sp k - sgR k rows := by
 rw [← own_at hk h]
 unfold ownM
 rw [rows_sg rows _ (by rw [List.length_map]; exact hk)]
 congr 1
 unfold wOf
 rw [List.getD_eq_getElem?_getD, List.getElem?_map, gE hk]; rfl
theorem sum_sg {y : Nat → Int} {n : Nat} : ∀ (ws : List Stp), (∀ s ∈ ws, s.i < n) → sumN (fun k => sg k ws * y k) n = alg y ws
 | [], _ => by
  show sumN (fun k => 0 * y k) n = 0
  rw [sumN_same (g := fun _ => 0 * 0) n fun k _ => by rw [Int.zero_mul, Int.zero_mul], sumN_mul 0 (fun _ => 0) n, Int.zero_mul]
 | s :: ws, h => by
  show sumN (fun k => ((if s.i = k then s.d else 0) + sg k ws) * y k) n = s.d * y s.i + alg y ws
  rw [sumN_same (g := fun k => (if s.i = k then s.d else 0) * y k + sg k ws * y k) n fun k _ => Int.add_mul .., sumN_add, sumN_one n (h s (by simp)), sum_sg ws fun t ht => h t (List.mem_cons_of_mem _ ht)]
def algR (y : Nat → Int) : List (Int × List Stp) → Int
 | [] => 0
 | r :: rows => r.1 * alg y r.2 + algR y rows
theorem sum_sgR {y : Nat → Int} {n : Nat} : ∀ (rows : List (Int × List Stp)), (∀ r ∈ rows, ∀ s ∈ r.2, s.i < n) → sumN (fun k => sgR k rows * y k) n = algR y rows
 | [], _ => by
  show sumN (fun k => 0 * y k) n = 0
  rw [sumN_same (g := fun _ => 0 * 0) n fun k _ => by rw [Int.zero_mul, Int.zero_mul], sumN_mul 0 (fun _ => 0) n, Int.zero_mul]
 | r :: rows, h => by
  show sumN (fun k => (r.1 * sg k r.2 + sgR k rows) * y k) n = r.1 * alg y r.2 + algR y rows
  rw [sumN_same (g := fun k => r.1 * (sg k r.2 * y k) + sgR k rows * y k) n fun k _ => by rw [Int.add_mul, Int.mul_assoc], sumN_add, sumN_mul, sum_sg r.2 (h r (by simp)), sum_sgR rows fun t ht => h t (List.mem_cons_of_mem _ ht)]
def layT (b : Int) (ts : List Int) (sp : List Sn) (k : Nat) : Int := match sp[k]? with | some x => x.l + waitM b ts x | none => 0
def InB (y : Nat → Int) (bs : List (Int × Int)) : Prop := ∀ k, k < bs.length → (bs.getD k (0, 0)).1 ≤ y k ∧ y k ≤ (bs.getD k (0, 0)).2
theorem lay_in {b : Int} {ts : List Int} {sp : List Sn} (hb : 0 < b) (hf : fitsM b ts sp = true) : InB (layT b ts sp) (sp.map fun x => (x.l, x.o)) := fun k hk => by
 rw [List.length_map] at hk
 have e : (sp.map fun x => (x.l, x.o)).getD k (0, 0) = (sp[k].l, sp[k].o) := by
  rw [List.getD_eq_getElem?_getD, List.getElem?_map, gE hk]; rfl
 have e2 : layT b ts sp k = sp[k].l + waitM b ts sp[k] := by
  unfold layT
  rw [gE hk]
 rw [e, e2]
 have h0 : 0 ≤ waitM b ts sp[k] := by unfold waitM; exact Int.emod_nonneg _ (by omega)
 have h1 : ¬ (sp[k].o - sp[k].l < waitM b ts sp[k]) := by
  unfold fitsM at hf
  rw [Bool.not_eq_true', List.any_eq_false] at hf
  have := hf sp[k] (List.getElem_mem hk)
  unfold brk at this
  simpa using this
 exact ⟨by show sp[k].l ≤ _; omega, by show _ ≤ sp[k].o; omega⟩
theorem inB_one {y : Nat → Int} {bs : List (Int × Int)} {k : Nat} {a : Int} (h : InB y bs) (ha : y k ≤ a) : InB y (oneB bs k a) := fun j hj => by
 rw [one_len] at hj
 have hh := h j hj
 unfold oneB
 rw [List.getD_eq_getElem?_getD]
 by_cases e : k = j
 ·subst e
  rw [List.getElem?_set_self hj]
  exact ⟨hh.1, ha⟩
 ·rw [List.getElem?_set_ne e, ← List.getD_eq_getElem?_getD]
  exact hh
theorem inB_other {y : Nat → Int} {bs : List (Int × Int)} {k : Nat} {a : Int} (h : InB y bs) (ha : a + 1 ≤ y k) : InB y (otherB bs k a) := fun j hj => by
 rw [other_len] at hj
 have hh := h j hj
 unfold otherB
 rw [List.getD_eq_getElem?_getD]
 by_cases e : k = j
 ·subst e
  rw [List.getElem?_set_self hj]
  exact ⟨ha, hh.2⟩
 ·rw [List.getElem?_set_ne e, ← List.getD_eq_getElem?_getD]
  exact hh
theorem in_leaf {y : Nat → Int} : ∀ (t : Tq) (bs : List (Int × Int)), InB y bs → ∃ p ∈ lvs t bs, InB y p.1
 | .leaf d, bs, h => ⟨(bs, d), List.mem_singleton.mpr rfl, h⟩
 | .cut k a t1 t2, bs, h => by
  rcases Int.lt_or_le a (y k) with q | q
  ·obtain ⟨p, hp, hh⟩ := in_leaf t2 (otherB bs k a) (inB_other h (by omega))
   exact ⟨p, List.mem_append.mpr (.inr hp), hh⟩
  ·obtain ⟨p, hp, hh⟩ := in_leaf t1 (oneB bs k a) (inB_one h q)
   exact ⟨p, List.mem_append.mpr (.inl hp), hh⟩
theorem alg_way {b : Int} {ts : List Int} {sp : List Sn} : ∀ (ws : List Stp) (x z : Int), WayIn sp.length ws → Along sp x ws z → ∃ Z, alg (layT b ts sp) ws = tm ts z - tm ts x + b * Z
 | [], x, z, _, h => by
  have h : x = z := h
  subst h
  exact ⟨0, by show (0 : Int) = _; rw [Int.mul_zero]; omega⟩
 | s :: ws, x, z, hw, h => by
  obtain ⟨h1, h2⟩ := h
  obtain ⟨Z, hZ⟩ := alg_way (b := b) (ts := ts) ws _ z (fun t ht => hw t (List.mem_cons_of_mem _ ht)) h2
  obtain ⟨hs, hd⟩ := hw s (by simp)
  obtain ⟨i, d⟩ := s
  have hs : i < sp.length := hs
  have hd : d = 1 ∨ d = -1 := hd
  have e2 : layT b ts sp i = sp[i].l + waitM b ts sp[i] := by
   unfold layT
   rw [gE hs]
  have hm := Int.mul_ediv_add_emod (tm ts sp[i].g - tm ts sp[i].s - sp[i].l) b
  show ∃ Z, d * layT b ts sp i + alg (layT b ts sp) ws = _
  rw [hZ, e2]
  unfold waitM
  rw [tooS_at hs] at *
  rw [frmS_at hs] at h1
  unfold frm at h1
  unfold too at *
  generalize (tm ts sp[i].g - tm ts sp[i].s - sp[i].l) / b = q at hm
  generalize (tm ts sp[i].g - tm ts sp[i].s - sp[i].l) % b = r at hm ⊢
  rcases hd with rfl | rfl
  ·rw [if_pos rfl] at h1 ⊢
   subst h1
   exact ⟨Z - q, by rw [Int.mul_sub]; omega⟩
  ·rw [if_neg (by decide)] at h1 ⊢
   subst h1
   exact ⟨Z + q, by rw [Int.mul_add b Z q]; omega⟩
theorem alg_lo {y : Nat → Int} {bs : List (Int × Int)} (h : InB y bs) : ∀ (ws : List Stp), WayIn bs.length ws → sumLo bs ws ≤ alg y ws ∧ alg y ws ≤ sumHi bs ws
 | [], _ => ⟨Int.le_refl _, Int.le_refl _⟩
 | s :: ws, hw => by
  obtain ⟨i1, i2⟩ := alg_lo h ws fun t ht => hw t (List.mem_cons_of_mem _ ht)
  obtain ⟨hs, hd⟩ := hw s (by simp)
  obtain ⟨b1, b2⟩ := h s.i hs
  have e : bs.getD s.i (0, 0) = bs[s.i] := by rw [List.getD_eq_getElem?_getD, gE hs]; rfl
  rw [e] at b1 b2
  have e1 : sumLo bs (s :: ws) = lowS bs s + sumLo bs ws := rfl
  have e2 : sumHi bs (s :: ws) = highS bs s + sumHi bs ws := rfl
  have f1 : lowS bs s = if s.d = 1 then bs[s.i].1 else -bs[s.i].2 := by unfold lowS; rw [gE hs]
  have f2 : highS bs s = if s.d = 1 then bs[s.i].2 else -bs[s.i].1 := by unfold highS; rw [gE hs]
  rw [e1, e2, f1, f2]
  show _ ≤ s.d * y s.i + alg y ws ∧ s.d * y s.i + alg y ws ≤ _
  rcases hd with d1 | d1
  ·rw [d1, if_pos rfl, if_pos rfl]; omega
  ·rw [d1, if_neg (by decide), if_neg (by decide)]; omega
theorem ring_in {b : Int} {ts : List Int} {sp : List Sn} {bs : List (Int × Int)} {ws : List Stp} (hb : 0 < b) (hl : bs.length = sp.length) (h : InB (layT b ts sp) bs) (hr : Rg sp ws) :
  ∃ Z, alg (layT b ts sp) ws = b * Z ∧ upB b (sumLo bs ws) ≤ Z ∧ Z ≤ sumHi bs ws / b := by
 obtain ⟨x, hx⟩ := hr.rnd
 obtain ⟨Z, hZ⟩ := alg_way (b := b) (ts := ts) ws x x hr.inn hx
 obtain ⟨l1, l2⟩ := alg_lo h ws (by rw [hl]; exact hr.inn)
 have e : alg (layT b ts sp) ws = b * Z := by omega
 rw [e] at l1 l2
 refine ⟨Z, e, ?_, ?_⟩
 ·unfold upB
  have : -Z ≤ -sumLo bs ws / b := by
   rw [Int.le_ediv_iff_mul_le hb, Int.neg_mul, Int.mul_comm Z b]; omega
  omega
 ·rw [Int.le_ediv_iff_mul_le hb, Int.mul_comm Z b]; exact l2
theorem wait_sum {b : Int} {ts : List Int} {sp : List Sn} : waitOfM b ts sp = sumN (fun k => wOf sp k * layT b ts sp k - wOf sp k * lOf sp k) sp.length := by
 unfold waitOfM
 have := sumN_list (fun x : Sn => x.w * waitM b ts x) sp sp.length (Nat.le_refl _)
 rw [List.take_length] at this
 rw [this]
 refine sumN_same _ fun k hk => ?_
 unfold wOf layT lOf
 rw [gE hk]
 show sp[k].w * waitM b ts sp[k] = sp[k].w * (sp[k].l + waitM b ts sp[k]) - sp[k].w * sp[k].l
 rw [Int.mul_add]; omega
theorem rows_in {b : Int} {ts : List Int} {sp : List Sn} {bs : List (Int × Int)} (hb : 0 < b) (hl : bs.length = sp.length) (h : InB (layT b ts sp) bs) : ∀ (rows : List (Int × List Stp)), (∀ r ∈ rows, RowOk b sp bs r) → algR (layT b ts sp) rows = rowsW b bs rows
 | [], _ => rfl
 | r :: rows, hr => by
  obtain ⟨h1, h2, _⟩ := hr r (by simp)
  obtain ⟨Z, e, z1, z2⟩ := ring_in hb hl h h1
  have h2 := of_decide_eq_true h2
  have ez : Z = upB b (sumLo bs r.2) := by omega
  have ih := rows_in hb hl h rows fun t ht => hr t (List.mem_cons_of_mem _ ht)
  have e3 : rowsW b bs (r :: rows) = r.1 * upB b (sumLo bs r.2) * b + rowsW b bs rows := rfl
  show r.1 * alg (layT b ts sp) r.2 + algR (layT b ts sp) rows = _
  rw [e3, ih, e, ez, Int.mul_comm b, Int.mul_assoc]
theorem weak {b : Int} {ts : List Int} {sp : List Sn} {bs : List (Int × Int)} {rows : List (Int × List Stp)} (hb : 0 < b) (hl : bs.length = sp.length) (h : InB (layT b ts sp) bs) (hr : ∀ r ∈ rows, RowOk b sp bs r) : worthM b sp bs rows ≤ waitOfM b ts sp := by
 have rw1 : ∀ r ∈ rows, RwOk sp.length r := fun r hh => by
  have q := hr r hh
  exact ⟨q.1.inn, q.1.one, q.1.few, q.2.2.1, q.2.2.2⟩
 have e1 := rows_in hb hl h rows hr
 have e2 := sum_sgR (y := layT b ts sp) (n := sp.length) rows fun r hh s hs => ((rw1 r hh).inn s hs).1
 unfold worthM
 rw [sumN_range, ← e1, ← e2, wait_sum, ← sumN_add]
 refine sumN_le _ fun k hk => ?_
 unfold termW
 have eo := owK_sg hk rw1
 obtain ⟨h1, h2⟩ := h k (by omega)
 have key : owK sp rows k * (if owK sp rows k < 0 then (bs.getD k (0, 0)).2 else (bs.getD k (0, 0)).1) ≤ owK sp rows k * layT b ts sp k := by
  split
  ·rename_i hn
   exact Int.mul_le_mul_of_nonpos_left (Int.le_of_lt hn) h2
  ·rename_i hn
   exact Int.mul_le_mul_of_nonneg_left h1 (by omega)
 have ex : owK sp rows k * layT b ts sp k = wOf sp k * layT b ts sp k - sgR k rows * layT b ts sp k := by rw [eo, Int.sub_mul]
 omega
theorem shown_weak {b : Int} {ts : List Int} {sp : List Sn} {t : Tq} {ps : List Plc} (hb : 0 < b) (hf : fitsM b ts sp = true) (lv : lvs t (sp.map fun x => (x.l, x.o)) = ps.map plcL) (ok : ∀ p ∈ ps, p.1.length = sp.length ∧ LfOk b sp p.1 p.2) :
  worthsM b sp ps ≠ [] ∧ leastI (worthsM b sp ps) ≤ waitOfM b ts sp := by
 obtain ⟨q, hq, hin⟩ := in_leaf (y := layT b ts sp) t _ (lay_in hb hf)
 rw [lv] at hq
 obtain ⟨p, hp, rfl⟩ := List.mem_map.mp hq
 obtain ⟨o1, o2⟩ := ok p hp
 have hin : InB (layT b ts sp) p.1 := hin
 obtain ⟨bs, lf⟩ := p
 cases lf with
 | ring ws =>
  obtain ⟨r1, r2⟩ := o2
  obtain ⟨Z, _, z1, z2⟩ := ring_in hb o1 hin r1
  have r2 := of_decide_eq_true r2
  exact absurd r2 (by show ¬ (upB b (sumLo bs ws) > sumHi bs ws / b); omega)
 | price rows =>
  have hw := weak hb o1 hin o2.2
  have hm : worthM b sp bs rows ∈ worthsM b sp ps := List.mem_filterMap.mpr ⟨_, hp, rfl⟩
  have ne : worthsM b sp ps ≠ [] := fun e => by rw [e] at hm; cases hm
  exact ⟨ne, Int.le_trans ((least_ok _ ne).2 _ hm) hw⟩
end HN
namespace HN
open PySem L2 PyProof.Rows
def longer (b : Nat) (tt : List (List Int)) : List (List Int) := tt.flatMap fun t => (List.range b).map fun c : Nat => t ++ [(0 : Int) + (c : Nat)]
def allT (b : Nat) : Nat → List (List Int)
 | 0 => [[]]
 | n + 1 => longer b (allT b n)
theorem longer_len (b : Nat) : ∀ tt : List (List Int), (longer b tt).length = b * tt.length
 | [] => by show 0 = b * 0; rw [Nat.mul_zero]
 | t :: tt => by
  have e : longer b (t :: tt) = ((List.range b).map fun c : Nat => t ++ [(0 : Int) + (c : Nat)]) ++ longer b tt := by unfold longer; rw [List.flatMap_cons]
  rw [e, List.length_append, longer_len b tt, List.length_map, List.length_range, List.length_cons, Nat.mul_add]
  omega
theorem allT_len (b : Nat) : ∀ n, (allT b n).length ≤ b ^ n
 | 0 => by show 1 ≤ 1; decide
 | n + 1 => by
  show (longer b (allT b n)).length ≤ _
  rw [longer_len, Nat.pow_succ, Nat.mul_comm]
  exact Nat.mul_le_mul_right b (allT_len b n)
theorem allT_each (b : Nat) : ∀ n, ∀ t ∈ allT b n, t.length = n
 | 0, t, h => by rw [List.mem_singleton.mp h]; rfl
 | n + 1, t, h => by
  obtain ⟨t', h1, h2⟩ := List.mem_flatMap.mp (show t ∈ longer b (allT b n) from h)
  obtain ⟨c, _, rfl⟩ := List.mem_map.mp h2
  rw [List.length_append, allT_each b n t' h1]; rfl
theorem pow6 {n : Nat} (h : n ≤ 3) : 6 ^ n ≤ 216 := Nat.le_trans (Nat.pow_le_pow_right (by decide) h) (by decide)
def spTablesA : Sp := fun vs H Q _ => ∃ (b m : Int), vs = [.int b, .int m] ∧ 0 ≤ b ∧ b ≤ 6 ∧ 0 ≤ m ∧ m ≤ 4 ∧ ∀ L us H', Same H H' → H' L = some (.lst us) → IsDs H' us (rowsD id (allT b.toNat m.toNat)) → Q (.ref L) H'
end HN
namespace HN
open PySem L2 PyProof.Rows
def z0 : Sn := ⟨0, 0, 0, 0, 0⟩
def sAt (sp : List Sn) (i : Nat) : Sn := sp.getD i z0
theorem sAt_of {sp : List Sn} {i : Nat} (h : i < sp.length) : sp[i]? = some (sAt sp i) := by
 unfold sAt
 rw [List.getD_eq_getElem?_getD, gE h]; rfl
theorem sAt_mem {sp : List Sn} {i : Nat} (h : i < sp.length) : sAt sp i ∈ sp := List.mem_of_getElem? (sAt_of h)
def wkey (sp : List Sn) (i : Nat) : Int × Int := ((sAt sp i).o - (sAt sp i).l, (i : Int))
def Ordd (sp : List Sn) (π : List Nat) : Prop := π.Perm (List.range sp.length) ∧ π.Pairwise fun i j => ltP (wkey sp i) (wkey sp j) = true
theorem wkey_nodup (sp : List Sn) (n : Nat) : ((List.range n).map (wkey sp)).Nodup := by
 rw [List.nodup_iff_pairwise_ne, List.pairwise_map]
 refine List.Pairwise.imp (fun {a b} h e => h ?_) List.nodup_range
 have := congrArg Prod.snd e
 exact Int.ofNat.inj this
theorem ltP_asym {x y : Int × Int} (h : ltP x y = true) (k : ltP y x = true) : False := by
 rw [ltP_iff] at h k
 omega
theorem perm_eq {α : Type} {R : α → α → Prop} (as : ∀ a b, R a b → R b a → a = b) : ∀ {l k : List α}, l.Perm k → l.Pairwise R → k.Pairwise R → l = k
 | [], k, p, _, _ => (List.nil_perm.mp p).symm
 | a :: l, k, p, hl, hk => by
  cases k with
  | nil => exact absurd p.symm (by intro z; have := List.nil_perm.mp z; cases this)
  | cons b k =>
   have ab : a = b := by
    have ha : a ∈ b :: k := p.mem_iff.mp List.mem_cons_self
    have hb : b ∈ a :: l := p.mem_iff.mpr List.mem_cons_self
    rcases List.mem_cons.mp ha with e | ha
    ·exact e
    ·rcases List.mem_cons.mp hb with e | hb
     ·exact e.symm
     ·exact as a b (List.rel_of_pairwise_cons hl hb) (List.rel_of_pairwise_cons hk ha)
   subst ab
   rw [perm_eq as p.cons_inv (List.pairwise_cons.mp hl).2 (List.pairwise_cons.mp hk).2]
theorem Ordd.one {sp : List Sn} {π ρ : List Nat} (a : Ordd sp π) (b : Ordd sp ρ) : π = ρ :=
 perm_eq (fun _ _ h k => (ltP_asym h k).elim) (a.1.trans b.1.symm) a.2 b.2
theorem Ordd.lt {sp : List Sn} {π : List Nat} (a : Ordd sp π) {i : Nat} (h : i ∈ π) : i < sp.length := List.mem_range.mp (a.1.mem_iff.mp h)
theorem Ordd.nodup {sp : List Sn} {π : List Nat} (a : Ordd sp π) : π.Nodup := a.1.nodup_iff.mpr List.nodup_range
theorem Ordd.len {sp : List Sn} {π : List Nat} (a : Ordd sp π) : π.length = sp.length := by rw [a.1.length_eq, List.length_range]
def joinG (gs : List Int) (x y : Int) : List Int := gs.map fun g => if g = y then x else g
def stepG (sp : List Sn) (c : List Int × List Nat) (i : Nat) : List Int × List Nat :=
 if tm c.1 (sAt sp i).s = tm c.1 (sAt sp i).g then c else (joinG c.1 (tm c.1 (sAt sp i).s) (tm c.1 (sAt sp i).g), c.2 ++ [i])
def grp0 (m : Nat) : List Int := (List.range m).map fun (k : Nat) => (k : Int)
def goneG (sp : List Sn) (m : Nat) (π : List Nat) : List Int × List Nat := π.foldl (stepG sp) (grp0 m, [])
def partOf (ps : List (List Int)) (x : Int) : List Int := (ps.filter fun p => decide (x ∈ p)).headD []
def prt0 (m : Nat) : List (List Int) := (List.range m).map fun (k : Nat) => [(k : Int)]
structure Rl (m : Nat) (gs : List Int) (ps : List (List Int)) : Prop where
 len : gs.length = m
 cov : ∀ x : Int, 0 ≤ x → x < m → ∃ p ∈ ps, x ∈ p
 one : ∀ p ∈ ps, ∀ q ∈ ps, ∀ x, x ∈ p → x ∈ q → p = q
 eqv : ∀ x y : Int, 0 ≤ x → x < m → 0 ≤ y → y < m → (tm gs x = tm gs y ↔ ∃ p ∈ ps, x ∈ p ∧ y ∈ p)
theorem Rl.part {m : Nat} {gs : List Int} {ps : List (List Int)} (R : Rl m gs ps) {x : Int} (h0 : 0 ≤ x) (h1 : x < m) : partOf ps x ∈ ps ∧ x ∈ partOf ps x := by
 obtain ⟨p, hp, hx⟩ := R.cov x h0 h1
 unfold partOf
 have hm : p ∈ ps.filter fun p => decide (x ∈ p) := List.mem_filter.mpr ⟨hp, decide_eq_true hx⟩
 cases e : ps.filter fun p => decide (x ∈ p) with
 | nil => rw [e] at hm; cases hm
 | cons q r =>
  have hq : q ∈ ps.filter fun p => decide (x ∈ p) := by rw [e]; exact List.mem_cons_self
  obtain ⟨a, b⟩ := List.mem_filter.mp hq
  exact ⟨a, of_decide_eq_true b⟩
theorem Rl.is {m : Nat} {gs : List Int} {ps : List (List Int)} (R : Rl m gs ps) {x y : Int} (h0 : 0 ≤ x) (h1 : x < m) (k0 : 0 ≤ y) (k1 : y < m) : tm gs x = tm gs y ↔ x ∈ partOf ps y := by
 obtain ⟨p1, p2⟩ := R.part k0 k1
 refine (R.eqv x y h0 h1 k0 k1).trans ⟨fun ⟨p, hp, hx, hy⟩ => ?_, fun h => ⟨_, p1, h, p2⟩⟩
 rw [← R.one p hp _ p1 y hy p2]; exact hx
theorem Rl.same {m : Nat} {gs : List Int} {ps : List (List Int)} (R : Rl m gs ps) {x y : Int} (h0 : 0 ≤ x) (h1 : x < m) (k0 : 0 ≤ y) (k1 : y < m) : tm gs x = tm gs y ↔ partOf ps x = partOf ps y := by
 refine (R.is h0 h1 k0 k1).trans ⟨fun h => ?_, fun h => ?_⟩
 ·exact R.one _ (R.part h0 h1).1 _ (R.part k0 k1).1 x (R.part h0 h1).2 h
 ·rw [← h]; exact (R.part h0 h1).2
theorem tm_join {gs : List Int} {u v x : Int} (h0 : 0 ≤ x) (h1 : x < gs.length) : tm (joinG gs u v) x = if tm gs x = v then u else tm gs x := by
 obtain ⟨j, rfl⟩ := Int.eq_ofNat_of_zero_le h0
 have hj : j < gs.length := by omega
 unfold tm joinG
 simp only [Int.toNat_natCast, List.getD_eq_getElem?_getD, List.getElem?_map, gE hj, Option.map_some, Option.getD_some]
theorem Rl.join {m : Nat} {gs : List Int} {ps : List (List Int)} (R : Rl m gs ps) {a b : Int} (a0 : 0 ≤ a) (a1 : a < m) (b0 : 0 ≤ b) (b1 : b < m) :
  Rl m (joinG gs (tm gs a) (tm gs b)) (ps.filter (fun p => !(decide (p = partOf ps a)) && !(decide (p = partOf ps b))) ++ [partOf ps a ++ partOf ps b]) := by
 obtain ⟨pa, ha⟩ := R.part a0 a1
 obtain ⟨pb, hb⟩ := R.part b0 b1
 have mem : ∀ p, p ∈ ps.filter (fun p => !(decide (p = partOf ps a)) && !(decide (p = partOf ps b))) ++ [partOf ps a ++ partOf ps b] ↔ (p ∈ ps ∧ p ≠ partOf ps a ∧ p ≠ partOf ps b) ∨ p = partOf ps a ++ partOf ps b := fun p => by
  rw [List.mem_append, List.mem_filter, List.mem_singleton]
  simp only [Bool.and_eq_true, Bool.not_eq_true', decide_eq_false_iff_not, ne_eq]
 have uni : ∀ p ∈ ps, p ≠ partOf ps a → p ≠ partOf ps b → ∀ x, x ∈ p → x ∉ partOf ps a ++ partOf ps b := fun p hp n1 n2 x hx hz => by
  rcases List.mem_append.mp hz with hz | hz
  ·exact n1 (R.one p hp _ pa x hx hz)
  ·exact n2 (R.one p hp _ pb x hx hz)
 refine ⟨by unfold joinG; rw [List.length_map]; exact R.len, fun x h0 h1 => ?_, fun p hp q hq x hx hy => ?_, fun x y h0 h1 k0 k1 => ?_⟩
 ·obtain ⟨p, hp, hx⟩ := R.cov x h0 h1
  by_cases e1 : p = partOf ps a
  ·exact ⟨_, (mem _).mpr (.inr rfl), List.mem_append_left _ (e1 ▸ hx)⟩
  ·by_cases e2 : p = partOf ps b
   ·exact ⟨_, (mem _).mpr (.inr rfl), List.mem_append_right _ (e2 ▸ hx)⟩
   ·exact ⟨p, (mem p).mpr (.inl ⟨hp, e1, e2⟩), hx⟩
 ·rcases (mem p).mp hp with ⟨p1, p2, p3⟩ | rfl
  ·rcases (mem q).mp hq with ⟨q1, q2, q3⟩ | rfl
   ·exact R.one p p1 q q1 x hx hy
   ·exact absurd hy (uni p p1 p2 p3 x hx)
  ·rcases (mem q).mp hq with ⟨q1, q2, q3⟩ | rfl
   ·exact absurd hx (uni q q1 q2 q3 x hy)
   ·rfl
 ·rw [tm_join h0 (by rw [R.len]; exact h1), tm_join k0 (by rw [R.len]; exact k1)]
  have xa := R.is h0 h1 a0 a1
  have xb := R.is h0 h1 b0 b1
  have ya := R.is k0 k1 a0 a1
  have yb := R.is k0 k1 b0 b1
  have xy := R.eqv x y h0 h1 k0 k1
  constructor
  ·intro h
   by_cases e : tm gs x = tm gs y
   ·obtain ⟨p, hp, hx, hy⟩ := xy.mp e
    by_cases e1 : p = partOf ps a
    ·exact ⟨_, (mem _).mpr (.inr rfl), List.mem_append_left _ (e1 ▸ hx), List.mem_append_left _ (e1 ▸ hy)⟩
    ·by_cases e2 : p = partOf ps b
     ·exact ⟨_, (mem _).mpr (.inr rfl), List.mem_append_right _ (e2 ▸ hx), List.mem_append_right _ (e2 ▸ hy)⟩
     ·exact ⟨p, (mem p).mpr (.inl ⟨hp, e1, e2⟩), hx, hy⟩
   ·refine ⟨_, (mem _).mpr (.inr rfl), ?_, ?_⟩
    ·by_cases e1 : tm gs x = tm gs b
     ·exact List.mem_append_right _ (xb.mp e1)
     ·rw [if_neg e1] at h
      by_cases e2 : tm gs y = tm gs b
      ·rw [if_pos e2] at h; exact List.mem_append_left _ (xa.mp h)
      ·rw [if_neg e2] at h; exact absurd h e
    ·by_cases e1 : tm gs y = tm gs b
     ·exact List.mem_append_right _ (yb.mp e1)
     ·rw [if_neg e1] at h
      by_cases e2 : tm gs x = tm gs b
      ·rw [if_pos e2] at h; exact List.mem_append_left _ (ya.mp h.symm)
      ·rw [if_neg e2] at h; exact absurd h e
  ·rintro ⟨p, hp, hx, hy⟩
   rcases (mem p).mp hp with ⟨p1, p2, p3⟩ | rfl
   ·rw [xy.mpr ⟨p, p1, hx, hy⟩]
   ·have fx : ∀ z : Int, (z ∈ partOf ps a → tm gs z = tm gs a) → (z ∈ partOf ps b → tm gs z = tm gs b) → z ∈ partOf ps a ++ partOf ps b → (if tm gs z = tm gs b then tm gs a else tm gs z) = tm gs a := fun z f1 f2 hz => by
     by_cases e : tm gs z = tm gs b
     ·rw [if_pos e]
     ·rw [if_neg e]
      rcases List.mem_append.mp hz with hz | hz
      ·exact f1 hz
      ·exact absurd (f2 hz) e
    rw [fx x xa.mpr xb.mpr hx, fx y ya.mpr yb.mpr hy]
theorem tm_grp0 {m : Nat} {x : Int} (h0 : 0 ≤ x) (h1 : x < m) : tm (grp0 m) x = x := by
 obtain ⟨j, rfl⟩ := Int.eq_ofNat_of_zero_le h0
 unfold tm grp0
 rw [Int.toNat_natCast, List.getD_eq_getElem?_getD, List.getElem?_map, List.getElem?_range (by omega)]; rfl
theorem Rl.start (m : Nat) : Rl m (grp0 m) (prt0 m) := by
 have mem : ∀ p, p ∈ prt0 m ↔ ∃ k : Nat, k < m ∧ p = [(k : Int)] := fun p => by
  unfold prt0
  rw [List.mem_map]
  exact ⟨fun ⟨k, a, b⟩ => ⟨k, List.mem_range.mp a, b.symm⟩, fun ⟨k, a, b⟩ => ⟨k, List.mem_range.mpr a, b.symm⟩⟩
 refine ⟨by unfold grp0; rw [List.length_map, List.length_range], fun x h0 h1 => ⟨[x], (mem _).mpr ⟨x.toNat, by omega, by rw [Int.toNat_of_nonneg h0]⟩, List.mem_singleton.mpr rfl⟩, fun p hp q hq x hx hy => ?_, fun x y h0 h1 k0 k1 => ?_⟩
 ·obtain ⟨k, _, rfl⟩ := (mem p).mp hp
  obtain ⟨j, _, rfl⟩ := (mem q).mp hq
  rw [← List.mem_singleton.mp hx, ← List.mem_singleton.mp hy]
 ·rw [tm_grp0 h0 h1, tm_grp0 k0 k1]
  refine ⟨fun e => ⟨[x], (mem _).mpr ⟨x.toNat, by omega, by rw [Int.toNat_of_nonneg h0]⟩, List.mem_singleton.mpr rfl, by rw [e]; exact List.mem_singleton.mpr rfl⟩, fun ⟨p, hp, hx, hy⟩ => ?_⟩
  obtain ⟨k, _, rfl⟩ := (mem p).mp hp
  rw [List.mem_singleton.mp hx, List.mem_singleton.mp hy]
def Ends (m : Nat) (sp : List Sn) : Prop := ∀ x ∈ sp, 0 ≤ x.s ∧ x.s < m ∧ 0 ≤ x.g ∧ x.g < m
theorem stepG_sub (sp : List Sn) : ∀ (π : List Nat) (c : List Int × List Nat), (∀ i ∈ (π.foldl (stepG sp) c).2, i ∈ c.2 ∨ i ∈ π) ∧ (π.foldl (stepG sp) c).2.length ≤ c.2.length + π.length
 | [], c => ⟨fun i h => .inl h, Nat.le_refl _⟩
 | j :: π, c => by
  obtain ⟨a, b⟩ := stepG_sub sp π (stepG sp c j)
  rw [List.foldl_cons]
  have key : (∀ i ∈ (stepG sp c j).2, i ∈ c.2 ∨ i = j) ∧ (stepG sp c j).2.length ≤ c.2.length + 1 := by
   unfold stepG
   split
   ·exact ⟨fun i h => .inl h, by omega⟩
   ·refine ⟨fun i h => ?_, by rw [List.length_append]; exact Nat.le_refl _⟩
    rcases List.mem_append.mp h with h | h
    ·exact .inl h
    ·exact .inr (List.mem_singleton.mp h)
  refine ⟨fun i hi => ?_, by rw [List.length_cons]; omega⟩
  rcases a i hi with h | h
  ·rcases key.1 i h with h | h
   ·exact .inl h
   ·exact .inr (h ▸ List.mem_cons_self)
  ·exact .inr (List.mem_cons_of_mem _ h)
def IsFor (m : Nat) (sp : List Sn) (ns : List Int) : Prop := ∃ π, Ordd sp π ∧ ns.Perm ((goneG sp m π).2.map fun (i : Nat) => (i : Int)) ∧ ns.Pairwise (· ≤ ·)
theorem IsFor.one {m : Nat} {sp : List Sn} {ns ms : List Int} (a : IsFor m sp ns) (b : IsFor m sp ms) : ns = ms := by
 obtain ⟨π, o1, p1, w1⟩ := a
 obtain ⟨ρ, o2, p2, w2⟩ := b
 rw [o1.one o2] at p1
 exact perm_eq (fun a b h k => by omega) (p1.trans p2.symm) w1 w2
theorem IsFor.len {m : Nat} {sp : List Sn} {ns : List Int} (a : IsFor m sp ns) : ns.length ≤ sp.length := by
 obtain ⟨π, o, p, _⟩ := a
 rw [p.length_eq, List.length_map]
 have := (stepG_sub sp π (grp0 m, [])).2
 have h2 := o.len
 have h3 : ((grp0 m, ([] : List Nat)).2).length = 0 := rfl
 unfold goneG
 omega
theorem NetT.ends {b m : Int} {sp : List Sn} (N : NetT b m sp) : Ends m.toNat sp := fun x hx => by
 obtain ⟨s0, s1, g0, g1, _⟩ := N.all x hx
 omega
end HN
namespace HN
open PySem L2 PyProof.Rows
def Finer (m : Nat) (gs hs : List Int) : Prop := ∀ x y : Int, 0 ≤ x → x < m → 0 ≤ y → y < m → tm gs x = tm gs y → tm hs x = tm hs y
theorem Finer.refl (m : Nat) (gs : List Int) : Finer m gs gs := fun _ _ _ _ _ _ h => h
theorem Finer.join {m : Nat} {gs hs : List Int} {a b : Int} (F : Finer m gs hs) (l1 : gs.length = m) (a0 : 0 ≤ a) (a1 : a < m) (b0 : 0 ≤ b) (b1 : b < m) (e : tm hs a = tm hs b) : Finer m (joinG gs (tm gs a) (tm gs b)) hs := by
 intro x y x0 x1 y0 y1 h
 rw [tm_join x0 (by omega), tm_join y0 (by omega)] at h
 by_cases e1 : tm gs x = tm gs b
 ·have f1 := F x b x0 x1 b0 b1 e1
  rw [if_pos e1] at h
  by_cases e2 : tm gs y = tm gs b
  ·rw [f1, F y b y0 y1 b0 b1 e2]
  ·rw [if_neg e2] at h
   rw [f1, ← e, F a y a0 a1 y0 y1 h]
 ·rw [if_neg e1] at h
  by_cases e2 : tm gs y = tm gs b
  ·rw [if_pos e2] at h
   rw [F x a x0 x1 a0 a1 h, e, F y b y0 y1 b0 b1 e2]
  ·rw [if_neg e2] at h
   exact F x y x0 x1 y0 y1 h
theorem joinG_len (gs : List Int) (u v : Int) : (joinG gs u v).length = gs.length := by unfold joinG; rw [List.length_map]
theorem Finer.wide {m : Nat} {gs hs : List Int} {u v : Int} (F : Finer m gs hs) (l2 : hs.length = m) : Finer m gs (joinG hs u v) := by
 intro x y x0 x1 y0 y1 h
 rw [tm_join x0 (by omega), tm_join y0 (by omega), F x y x0 x1 y0 y1 h]
theorem join_meets {m : Nat} {gs : List Int} {a b : Int} (l1 : gs.length = m) (a0 : 0 ≤ a) (a1 : a < m) (b0 : 0 ≤ b) (b1 : b < m) : tm (joinG gs (tm gs a) (tm gs b)) a = tm (joinG gs (tm gs a) (tm gs b)) b := by
 rw [tm_join a0 (by omega), tm_join b0 (by omega), if_pos rfl]
 by_cases e : tm gs a = tm gs b
 ·rw [if_pos e]
 ·rw [if_neg e]
theorem stepG_cases (sp : List Sn) (gs : List Int) (tk : List Nat) (i : Nat) : (tm gs (sAt sp i).s = tm gs (sAt sp i).g ∧ stepG sp (gs, tk) i = (gs, tk)) ∨ (tm gs (sAt sp i).s ≠ tm gs (sAt sp i).g ∧ stepG sp (gs, tk) i = (joinG gs (tm gs (sAt sp i).s) (tm gs (sAt sp i).g), tk ++ [i])) := by
 unfold stepG
 by_cases e : tm gs (sAt sp i).s = tm gs (sAt sp i).g
 ·exact .inl ⟨e, if_pos e⟩
 ·exact .inr ⟨e, if_neg e⟩
theorem gone_wide {m : Nat} {sp : List Sn} : ∀ (π : List Nat) (gs hs : List Int) (tk : List Nat), hs.length = m → Finer m gs hs → Finer m gs (π.foldl (stepG sp) (hs, tk)).1
 | [], _, _, _, _, F => F
 | i :: π, gs, hs, tk, l, F => by
  rw [List.foldl_cons]
  rcases stepG_cases sp hs tk i with ⟨_, e⟩ | ⟨_, e⟩ <;> rw [e]
  ·exact gone_wide π gs hs tk l F
  ·exact gone_wide π gs _ _ (by rw [joinG_len]; exact l) (F.wide l)
theorem gone_meets {m : Nat} {sp : List Sn} (E : Ends m sp) : ∀ (π : List Nat) (gs : List Int) (tk : List Nat), gs.length = m → (∀ i ∈ π, i < sp.length) → ∀ i ∈ π, tm (π.foldl (stepG sp) (gs, tk)).1 (sAt sp i).s = tm (π.foldl (stepG sp) (gs, tk)).1 (sAt sp i).g
 | [], _, _, _, _, i, h => by cases h
 | j :: π, gs, tk, l, hp, i, h => by
  rw [List.foldl_cons]
  obtain ⟨a0, a1, b0, b1⟩ := E _ (sAt_mem (hp j List.mem_cons_self))
  have hp' : ∀ i ∈ π, i < sp.length := fun k hk => hp k (List.mem_cons_of_mem _ hk)
  rcases stepG_cases sp gs tk j with ⟨q, e⟩ | ⟨_, e⟩ <;> rw [e]
  ·rcases List.mem_cons.mp h with rfl | h
   ·exact gone_wide π gs gs tk l (Finer.refl m gs) _ _ a0 a1 b0 b1 q
   ·exact gone_meets E π gs tk l hp' i h
  ·have l' : (joinG gs (tm gs (sAt sp j).s) (tm gs (sAt sp j).g)).length = m := by rw [joinG_len]; exact l
   rcases List.mem_cons.mp h with rfl | h
   ·exact gone_wide π _ _ _ l' (Finer.refl m _) _ _ a0 a1 b0 b1 (join_meets l a0 a1 b0 b1)
   ·exact gone_meets E π _ _ l' hp' i h
theorem tm_mem {gs : List Int} {x : Int} (h0 : 0 ≤ x) (h1 : x < gs.length) : tm gs x ∈ gs := by
 obtain ⟨j, rfl⟩ := Int.eq_ofNat_of_zero_le h0
 unfold tm
 rw [Int.toNat_natCast, List.getD_eq_getElem?_getD, gE (by omega)]
 exact List.getElem_mem _
theorem mem_tm {gs : List Int} {v : Int} (h : v ∈ gs) : ∃ x : Int, 0 ≤ x ∧ x < gs.length ∧ tm gs x = v := by
 obtain ⟨j, hj, e⟩ := List.getElem_of_mem h
 refine ⟨j, by omega, by omega, ?_⟩
 unfold tm
 rw [Int.toNat_natCast, List.getD_eq_getElem?_getD, gE hj]; exact e
def Cnt (m : Nat) (gs : List Int) (k : Nat) : Prop := ∃ D : List Int, D.Nodup ∧ (∀ v, v ∈ D ↔ v ∈ gs) ∧ D.length + k = m
theorem Cnt.join {m k : Nat} {gs : List Int} (C : Cnt m gs k) {u v : Int} (hu : u ∈ gs) (hv : v ∈ gs) (n : u ≠ v) : Cnt m (joinG gs u v) (k + 1) := by
 obtain ⟨D, nd, mem, l⟩ := C
 have hvD := (mem v).mpr hv
 refine ⟨D.erase v, nd.erase v, fun z => ?_, by rw [List.length_erase_of_mem hvD]; have := List.length_pos_of_mem hvD; omega⟩
 rw [nd.mem_erase_iff, mem]
 unfold joinG
 rw [List.mem_map]
 constructor
 ·rintro ⟨h1, h2⟩
  exact ⟨z, h2, if_neg h1⟩
 ·rintro ⟨w, hw, rfl⟩
  by_cases e : w = v
  ·rw [if_pos e]; exact ⟨n, hu⟩
  ·rw [if_neg e]; exact ⟨e, hw⟩
theorem Cnt.start (m : Nat) : Cnt m (grp0 m) 0 := by
 refine ⟨grp0 m, ?_, fun _ => Iff.rfl, by unfold grp0; rw [List.length_map, List.length_range]; omega⟩
 unfold grp0
 rw [List.nodup_iff_pairwise_ne, List.pairwise_map]
 exact List.Pairwise.imp (fun {a b} h e => h (Int.ofNat.inj e)) List.nodup_range
theorem sub_len : ∀ {l k : List Int}, l.Nodup → (∀ x ∈ l, x ∈ k) → l.length ≤ k.length
 | [], _, _, _ => Nat.zero_le _
 | a :: l, k, nd, h => by
  have ha := h a List.mem_cons_self
  have ih := sub_len (l := l) (k := k.erase a) (List.nodup_cons.mp nd).2 fun x hx => by
   have hxk := h x (List.mem_cons_of_mem _ hx)
   have hne : x ≠ a := fun z => (List.nodup_cons.mp nd).1 (z ▸ hx)
   exact (List.mem_erase_of_ne hne).mpr hxk
  rw [List.length_erase_of_mem ha] at ih
  have := List.length_pos_of_mem ha
  rw [List.length_cons]; omega
theorem Cnt.le {m k j : Nat} {gs hs : List Int} (A : Cnt m gs k) (B : Cnt m hs j) (F : Finer m gs hs) (l1 : gs.length = m) (l2 : hs.length = m) : k ≤ j := by
 obtain ⟨D, nd, mem, l⟩ := A
 obtain ⟨D', nd', mem', l'⟩ := B
 have key : ∃ φ : Int → Int, ∀ d ∈ D', ∃ x : Int, 0 ≤ x ∧ x < m ∧ tm hs x = d ∧ φ d = tm gs x := by
  classical
  refine ⟨fun d => if h : ∃ x : Int, 0 ≤ x ∧ x < m ∧ tm hs x = d then tm gs h.choose else 0, fun d hd => ?_⟩
  have h : ∃ x : Int, 0 ≤ x ∧ x < m ∧ tm hs x = d := by
   obtain ⟨x, h0, h1, e⟩ := mem_tm ((mem' d).mp hd)
   exact ⟨x, h0, by omega, e⟩
  obtain ⟨c0, c1, c2⟩ := h.choose_spec
  exact ⟨h.choose, c0, c1, c2, dif_pos h⟩
 obtain ⟨φ, hφ⟩ := key
 have h1 : (D'.map φ).Nodup := by
  rw [List.nodup_iff_pairwise_ne, List.pairwise_map]
  refine List.Pairwise.imp_of_mem (fun {a b} ha hb h e => h ?_) (List.nodup_iff_pairwise_ne.mp nd')
  obtain ⟨x, x0, x1, x2, x3⟩ := hφ a ha
  obtain ⟨y, y0, y1, y2, y3⟩ := hφ b hb
  rw [← x2, ← y2]
  exact F x y x0 x1 y0 y1 (by rw [← x3, ← y3]; exact e)
 have h2 := sub_len h1 (k := D) fun z hz => by
  obtain ⟨d, hd, rfl⟩ := List.mem_map.mp hz
  obtain ⟨x, x0, x1, x2, x3⟩ := hφ d hd
  rw [x3]
  exact (mem _).mpr (tm_mem x0 (by omega))
 rw [List.length_map] at h2
 omega
theorem grp0_len (m : Nat) : (grp0 m).length = m := by unfold grp0; rw [List.length_map, List.length_range]
end HN
namespace HN
open PySem L2 PyProof.Rows
def lkW (l : List (Int × List Stp)) (x : Int) : Option (List Stp) := (l.find? fun p => decide (p.1 = x)).map (·.2)
theorem lkW_cons (p : Int × List Stp) (l : List (Int × List Stp)) (x : Int) : lkW (p :: l) x = if p.1 = x then some p.2 else lkW l x := by
 unfold lkW
 rw [List.find?_cons]
 by_cases e : p.1 = x
 ·rw [decide_eq_true e, if_pos e]; rfl
 ·rw [decide_eq_false e, if_neg e]
theorem lkW_new {l : List (Int × List Stp)} {y : Int} {ws : List Stp} (h : lkW l y = none) (x : Int) : lkW (l ++ [(y, ws)]) x = if x = y then some ws else lkW l x := by
 induction l with
 | nil =>
  show lkW [(y, ws)] x = _
  rw [lkW_cons]
  by_cases e : x = y
  ·rw [if_pos e, if_pos e.symm]
  ·rw [if_neg e, if_neg (fun z => e z.symm)]
 | cons p l ih =>
  rw [lkW_cons] at h
  by_cases e : p.1 = y
  ·rw [if_pos e] at h; cases h
  ·rw [if_neg e] at h
   rw [List.cons_append, lkW_cons, lkW_cons, ih h]
   by_cases e1 : p.1 = x
   ·rw [if_pos e1, if_pos e1, if_neg (fun z => e (e1.trans z))]
   ·rw [if_neg e1, if_neg e1]
def stF (tk : List Nat) : List Stp := tk.map (fun i => ⟨i, 1⟩) ++ tk.map (fun i => ⟨i, -1⟩)
def stepsF (sp : List Sn) (tk : List Nat) (x : Int) : List Stp := (stF tk).filter fun s => decide (frmS sp s = x)
def visit (sp : List Sn) (x : Int) (c : List (Int × List Stp) × List Int) (s : Stp) : List (Int × List Stp) × List Int :=
 if lkW c.1 (tooS sp s) = none then (c.1 ++ [(tooS sp s, (lkW c.1 x).getD [] ++ [s])], c.2 ++ [tooS sp s]) else c
def lastI (l : List Int) : Int := l.getLast?.getD 0
def turnW (sp : List Sn) (tk : List Nat) (c : List (Int × List Stp) × List Int) : List (Int × List Stp) × List Int :=
 (stepsF sp tk (lastI c.2)).foldl (visit sp (lastI c.2)) (c.1, c.2.dropLast)
def itW (sp : List Sn) (tk : List Nat) (be : Int) : Nat → List (Int × List Stp) × List Int
 | 0 => ([(be, [])], [be])
 | k + 1 => turnW sp tk (itW sp tk be k)
def WayR (sp : List Sn) (tk : List Nat) (be en : Int) (p : List Stp) : Prop := ∃ k, lkW (itW sp tk be k).1 en = some p ∧ ∀ j, j < k → lkW (itW sp tk be j).1 en = none
theorem WayR.one {sp : List Sn} {tk : List Nat} {be en : Int} {p q : List Stp} (a : WayR sp tk be en p) (b : WayR sp tk be en q) : p = q := by
 obtain ⟨k, h1, h2⟩ := a
 obtain ⟨j, g1, g2⟩ := b
 have e : k = j := by
  rcases Nat.lt_trichotomy k j with h | h | h
  ·rw [g2 k h] at h1; cases h1
  ·exact h
  ·rw [h2 j h] at g1; cases g1
 subst e
 rw [h1] at g1
 exact Option.some.inj g1
structure Pth (sp : List Sn) (tk : List Nat) (be x : Int) (ws : List Stp) : Prop where
 inn : ∀ s ∈ ws, s.i ∈ tk ∧ s.i < sp.length ∧ (s.d = 1 ∨ s.d = -1)
 alo : Along sp be ws x
 one : (ws.map Stp.i).Nodup
 met : (be :: ws.map (tooS sp)).Nodup
theorem mem_stF {tk : List Nat} {s : Stp} (h : s ∈ stF tk) : s.i ∈ tk ∧ (s.d = 1 ∨ s.d = -1) := by
 rcases List.mem_append.mp h with h | h
 ·obtain ⟨i, hi, rfl⟩ := List.mem_map.mp h; exact ⟨hi, .inl rfl⟩
 ·obtain ⟨i, hi, rfl⟩ := List.mem_map.mp h; exact ⟨hi, .inr rfl⟩
structure WI (m : Nat) (sp : List Sn) (tk : List Nat) (be : Int) (c : List (Int × List Stp) × List Int) : Prop where
 pth : ∀ x ws, lkW c.1 x = some ws → Pth sp tk be x ws ∧ ∀ s ∈ ws, lkW c.1 (frmS sp s) ≠ none ∧ lkW c.1 (tooS sp s) ≠ none
 rng : ∀ x, lkW c.1 x ≠ none → 0 ≤ x ∧ x < m
 ahd : ∀ x ∈ c.2, lkW c.1 x ≠ none
 beg : lkW c.1 be ≠ none
def Clo (sp : List Sn) (tk : List Nat) (ex : Int → Prop) (c : List (Int × List Stp) × List Int) : Prop := ∀ x, lkW c.1 x ≠ none → x ∉ c.2 → ¬ ex x → ∀ s ∈ stepsF sp tk x, lkW c.1 (tooS sp s) ≠ none
def cntW (l : List (Int × List Stp)) : Nat := (List.range 16).countP fun x => (lkW l ((x : Nat) : Int)).isNone
theorem count_lt' {α : Type} {P Q : α → Bool} : ∀ {l : List α}, (∀ x ∈ l, Q x = true → P x = true) → ∀ {a : α}, a ∈ l → P a = true → Q a = false → l.countP Q < l.countP P
 | [], _, _, h, _, _ => absurd h (by simp)
 | x :: l, hPQ, a, h, hP, hQ => by
  have le : l.countP Q ≤ l.countP P := List.countP_mono_left fun y hy => hPQ y (List.mem_cons_of_mem _ hy)
  rw [List.countP_cons, List.countP_cons]
  rcases List.mem_cons.mp h with rfl | h
  ·rw [hP, hQ]; simp; omega
  ·have ih := count_lt' (P := P) (Q := Q) (l := l) (fun y hy => hPQ y (List.mem_cons_of_mem _ hy)) h hP hQ
   have := hPQ x (by simp)
   cases q : Q x with
   | true => rw [this q]; simp; omega
   | false => simp; omega
theorem cntW_new {l : List (Int × List Stp)} {y : Int} {ws : List Stp} (h : lkW l y = none) (y0 : 0 ≤ y) (y1 : y < 16) : cntW (l ++ [(y, ws)]) < cntW l := by
 unfold cntW
 obtain ⟨n, rfl⟩ := Int.eq_ofNat_of_zero_le y0
 refine count_lt' (a := n) (fun x _ hx => ?_) (List.mem_range.mpr (by omega)) ?_ ?_
 ·rw [lkW_new h] at hx
  split at hx
  ·cases hx
  ·exact hx
 ·show (lkW l ((n : Nat) : Int)).isNone = true
  rw [h]; rfl
 ·show (lkW (l ++ [(((n : Nat) : Int), ws)]) ((n : Nat) : Int)).isNone = false
  rw [lkW_new h, if_pos rfl]; rfl
theorem tooS_rng {m : Nat} {sp : List Sn} (E : Ends m sp) {s : Stp} (hi : s.i < sp.length) : 0 ≤ tooS sp s ∧ tooS sp s < m := by
 obtain ⟨i, d⟩ := s
 have hi : i < sp.length := hi
 rw [tooS_at hi]
 obtain ⟨a, b, c, e⟩ := E _ (List.getElem_mem hi)
 unfold too
 split
 ·exact ⟨c, e⟩
 ·exact ⟨a, b⟩
theorem visit_ok {m : Nat} {sp : List Sn} {tk : List Nat} {be x : Int} (E : Ends m sp) (m16 : m ≤ 16) (ht : ∀ i ∈ tk, i < sp.length) {c : List (Int × List Stp) × List Int} {s : Stp} (I : WI m sp tk be c) (hx : lkW c.1 x ≠ none) (hs : s ∈ stepsF sp tk x) (C : Clo sp tk (· = x) c) :
  WI m sp tk be (visit sp x c s) ∧ Clo sp tk (· = x) (visit sp x c s) ∧ lkW (visit sp x c s).1 (tooS sp s) ≠ none ∧ (∀ y, lkW c.1 y ≠ none → lkW (visit sp x c s).1 y = lkW c.1 y) ∧ 2 * cntW (visit sp x c s).1 + (visit sp x c s).2.length ≤ 2 * cntW c.1 + c.2.length ∧ (visit sp x c s).1.length + cntW (visit sp x c s).1 ≤ c.1.length + cntW c.1 := by
 obtain ⟨hs1, hs2⟩ := List.mem_filter.mp hs
 have hfr : frmS sp s = x := of_decide_eq_true hs2
 obtain ⟨hst, hsd⟩ := mem_stF hs1
 have hsn := ht _ hst
 have tr := tooS_rng E hsn
 unfold visit
 by_cases e : lkW c.1 (tooS sp s) = none
 ·rw [if_pos e]
  obtain ⟨ws, hws⟩ : ∃ ws, lkW c.1 x = some ws := Option.ne_none_iff_exists'.mp hx
  have eg : (lkW c.1 x).getD [] = ws := by rw [hws]; rfl
  rw [eg]
  have keep : ∀ y, lkW c.1 y ≠ none → lkW (c.1 ++ [(tooS sp s, ws ++ [s])]) y = lkW c.1 y := fun y hy => by
   rw [lkW_new e, if_neg (fun (z : y = tooS sp s) => hy (by rw [z]; exact e))]
  have new : lkW (c.1 ++ [(tooS sp s, ws ++ [s])]) (tooS sp s) = some (ws ++ [s]) := by rw [lkW_new e, if_pos rfl]
  have more : ∀ y, lkW c.1 y ≠ none → lkW (c.1 ++ [(tooS sp s, ws ++ [s])]) y ≠ none := fun y hy => by rw [keep y hy]; exact hy
  obtain ⟨P, K⟩ := I.pth x ws hws
  have hne : ∀ st ∈ ws, st.i = s.i → False := fun st hst' e2 => by
   obtain ⟨k1, k2⟩ := K st hst'
   rcases ends_of_span (sp := sp) (st := st) (d := s.d) hsn e2 (P.inn st hst').2.2 hsd with z | z
   ·have z : tooS sp st = tooS sp s := z
    rw [z] at k2; exact k2 e
   ·have z : frmS sp st = tooS sp s := z
    rw [z] at k1; exact k1 e
  have hnew : Pth sp tk be (tooS sp s) (ws ++ [s]) := by
   refine ⟨fun st hst' => ?_, P.alo.append ⟨hfr, rfl⟩, ?_, ?_⟩
   ·rcases List.mem_append.mp hst' with h | h
    ·exact P.inn st h
    ·rw [List.mem_singleton.mp h]; exact ⟨hst, hsn, hsd⟩
   ·rw [List.map_append]
    refine List.nodup_append.mpr ⟨P.one, by simp, fun a ha b hb e3 => ?_⟩
    obtain ⟨st, hst', rfl⟩ := List.mem_map.mp ha
    have hb : b = s.i := by simpa using hb
    exact hne st hst' (by rw [e3, hb])
   ·rw [List.map_append, ← List.cons_append]
    refine List.nodup_append.mpr ⟨P.met, by simp, fun a ha b hb e3 => ?_⟩
    have hb : b = tooS sp s := by simpa using hb
    subst hb
    subst e3
    rcases List.mem_cons.mp ha with z | z
    ·rw [z] at e; exact I.beg e
    ·obtain ⟨st, hst', e4⟩ := List.mem_map.mp z
     exact (K st hst').2 (by rw [e4]; exact e)
  refine ⟨⟨fun y vs hy => ?_, fun y hy => ?_, fun y hy => ?_, more _ I.beg⟩, fun y hy hn ex t ht' => ?_, ?_, keep, ?_, ?_⟩
  ·rw [lkW_new e] at hy
   by_cases ey : y = tooS sp s
   ·rw [if_pos ey] at hy
    cases hy
    rw [ey]
    refine ⟨hnew, fun st hst' => ?_⟩
    rcases List.mem_append.mp hst' with h | h
    ·exact ⟨more _ (K st h).1, more _ (K st h).2⟩
    ·rw [List.mem_singleton.mp h, hfr]
     exact ⟨more _ hx, by rw [new]; exact fun z => nomatch z⟩
   ·rw [if_neg ey] at hy
    obtain ⟨P', K'⟩ := I.pth y vs hy
    exact ⟨P', fun st h => ⟨more _ (K' st h).1, more _ (K' st h).2⟩⟩
  ·have hy : lkW (c.1 ++ [(tooS sp s, ws ++ [s])]) y ≠ none := hy
   rw [lkW_new e] at hy
   by_cases ey : y = tooS sp s
   ·rw [ey]; exact tr
   ·rw [if_neg ey] at hy; exact I.rng y hy
  ·rcases List.mem_append.mp hy with h | h
   ·exact more _ (I.ahd y h)
   ·rw [List.mem_singleton.mp h]; show lkW (c.1 ++ [(tooS sp s, ws ++ [s])]) (tooS sp s) ≠ none; rw [new]; exact fun z => nomatch z
  ·have hy : lkW (c.1 ++ [(tooS sp s, ws ++ [s])]) y ≠ none := hy
   have hn : y ∉ c.2 ++ [tooS sp s] := hn
   have ey : y ≠ tooS sp s := fun z => hn (List.mem_append_right _ (List.mem_singleton.mpr z))
   rw [lkW_new e, if_neg ey] at hy
   exact more _ (C y hy (fun z => hn (List.mem_append_left _ z)) ex t ht')
  ·show lkW (c.1 ++ [(tooS sp s, ws ++ [s])]) (tooS sp s) ≠ none
   rw [new]; exact fun z => nomatch z
  ·have := cntW_new (ws := ws ++ [s]) e tr.1 (by omega)
   show 2 * cntW (c.1 ++ [(tooS sp s, ws ++ [s])]) + (c.2 ++ [tooS sp s]).length ≤ _
   rw [List.length_append]
   have : [tooS sp s].length = 1 := rfl
   omega
  ·have := cntW_new (ws := ws ++ [s]) e tr.1 (by omega)
   show (c.1 ++ [(tooS sp s, ws ++ [s])]).length + cntW (c.1 ++ [(tooS sp s, ws ++ [s])]) ≤ _
   rw [List.length_append]
   have : [(tooS sp s, ws ++ [s])].length = 1 := rfl
   omega
 ·rw [if_neg e]
  exact ⟨I, C, e, fun _ _ => rfl, Nat.le_refl _, Nat.le_refl _⟩
theorem visits_ok {m : Nat} {sp : List Sn} {tk : List Nat} {be x : Int} (E : Ends m sp) (m16 : m ≤ 16) (ht : ∀ i ∈ tk, i < sp.length) : ∀ {L : List Stp} {c : List (Int × List Stp) × List Int}, WI m sp tk be c → lkW c.1 x ≠ none → (∀ s ∈ L, s ∈ stepsF sp tk x) → Clo sp tk (· = x) c →
  WI m sp tk be (L.foldl (visit sp x) c) ∧ Clo sp tk (· = x) (L.foldl (visit sp x) c) ∧ (∀ s ∈ L, lkW (L.foldl (visit sp x) c).1 (tooS sp s) ≠ none) ∧ (∀ y, lkW c.1 y ≠ none → lkW (L.foldl (visit sp x) c).1 y = lkW c.1 y) ∧ 2 * cntW (L.foldl (visit sp x) c).1 + (L.foldl (visit sp x) c).2.length ≤ 2 * cntW c.1 + c.2.length ∧ (L.foldl (visit sp x) c).1.length + cntW (L.foldl (visit sp x) c).1 ≤ c.1.length + cntW c.1
 | [], c, I, _, _, C => ⟨I, C, fun _ h => (by cases h), fun _ _ => rfl, Nat.le_refl _, Nat.le_refl _⟩
 | s :: L, c, I, hx, hL, C => by
  obtain ⟨a1, a2, a3, a4, a5, a6⟩ := visit_ok E m16 ht I hx (hL s List.mem_cons_self) C
  obtain ⟨b1, b2, b3, b4, b5, b6⟩ := visits_ok E m16 ht (L := L) a1 (by rw [a4 x hx]; exact hx) (fun t h => hL t (List.mem_cons_of_mem _ h)) a2
  rw [List.foldl_cons]
  refine ⟨b1, b2, fun t h => ?_, fun y hy => ?_, Nat.le_trans b5 a5, Nat.le_trans b6 a6⟩
  ·rcases List.mem_cons.mp h with rfl | h
   ·rw [b4 _ a3]; exact a3
   ·exact b3 t h
  ·rw [b4 y (by rw [a4 y hy]; exact hy), a4 y hy]
theorem turn_ok {m : Nat} {sp : List Sn} {tk : List Nat} {be : Int} (E : Ends m sp) (m16 : m ≤ 16) (ht : ∀ i ∈ tk, i < sp.length) {c : List (Int × List Stp) × List Int} (I : WI m sp tk be c) (C : Clo sp tk (fun _ => False) c) (hne : c.2 ≠ []) :
  WI m sp tk be (turnW sp tk c) ∧ Clo sp tk (fun _ => False) (turnW sp tk c) ∧ 2 * cntW (turnW sp tk c).1 + (turnW sp tk c).2.length < 2 * cntW c.1 + c.2.length ∧ (turnW sp tk c).1.length + cntW (turnW sp tk c).1 ≤ c.1.length + cntW c.1 := by
 have hl : c.2.getLast? = some (c.2.getLast hne) := List.getLast?_eq_some_getLast hne
 have e0 : c.2 = c.2.dropLast ++ [lastI c.2] := by
  unfold lastI
  rw [hl]
  exact (List.dropLast_concat_getLast hne).symm
 have hmem : lastI c.2 ∈ c.2 := by rw [e0]; unfold lastI; simp
 have hx := I.ahd _ hmem
 have I0 : WI m sp tk be (c.1, c.2.dropLast) := ⟨I.pth, I.rng, fun y hy => I.ahd y ((List.dropLast_sublist _).subset hy), I.beg⟩
 have C0 : Clo sp tk (· = lastI c.2) (c.1, c.2.dropLast) := fun y hy hn ex t ht' => C y hy (fun z => by
  rw [e0] at z
  rcases List.mem_append.mp z with z | z
  ·exact hn z
  ·exact ex (List.mem_singleton.mp z)) (fun z => z) t ht'
 obtain ⟨b1, b2, b3, b4, b5, b6⟩ := visits_ok E m16 ht (L := stepsF sp tk (lastI c.2)) I0 hx (fun _ h => h) C0
 refine ⟨b1, fun y hy hn _ t ht' => ?_, ?_, b6⟩
 ·by_cases e : y = lastI c.2
  ·subst e; exact b3 t ht'
  ·exact b2 y hy hn e t ht'
 ·have l1 : c.2.dropLast.length + 1 = c.2.length := by
   have := congrArg List.length e0
   rw [List.length_append] at this
   exact this.symm
  have b5 : 2 * cntW (turnW sp tk c).1 + (turnW sp tk c).2.length ≤ 2 * cntW c.1 + c.2.dropLast.length := b5
  omega
theorem start_ok {m : Nat} {sp : List Sn} {tk : List Nat} {be : Int} (b0 : 0 ≤ be) (b1 : be < m) : WI m sp tk be ([(be, [])], [be]) ∧ Clo sp tk (fun _ => False) ([(be, [])], [be]) := by
 have lk : ∀ x, lkW [(be, [])] x = if be = x then some [] else none := fun x => by rw [lkW_cons]; rfl
 have kb : ∀ x, lkW [(be, ([] : List Stp))] x ≠ none → x = be := fun x h => by
  rw [lk] at h
  by_cases e : be = x
  ·exact e.symm
  ·rw [if_neg e] at h; exact absurd rfl h
 have kn : lkW [(be, ([] : List Stp))] be ≠ none := by rw [lk, if_pos rfl]; exact fun z => nomatch z
 refine ⟨⟨fun x ws h => ?_, fun x h => by rw [kb x h]; exact ⟨b0, b1⟩, fun x h => by rw [List.mem_singleton.mp h]; exact kn, kn⟩, fun x h hn => ?_⟩
 ·have h : lkW [(be, [])] x = some ws := h
  rw [lk] at h
  by_cases e : be = x
  ·rw [if_pos e] at h
   cases h
   exact ⟨⟨fun _ h => (nomatch h), e, List.nodup_nil, List.nodup_cons.mpr ⟨fun h => (nomatch h), List.nodup_nil⟩⟩, fun _ h => (nomatch h)⟩
  ·rw [if_neg e] at h; cases h
 ·exact absurd (List.mem_singleton.mpr (kb x h)) hn
def Held (sp : List Sn) (tk : List Nat) (be en : Int) : Prop := ∀ S : Int → Prop, (∀ i ∈ tk, S (sAt sp i).s ↔ S (sAt sp i).g) → S be → S en
theorem frmS_1 {sp : List Sn} {i : Nat} (h : i < sp.length) : frmS sp ⟨i, 1⟩ = (sAt sp i).s ∧ tooS sp ⟨i, 1⟩ = (sAt sp i).g ∧ frmS sp ⟨i, -1⟩ = (sAt sp i).g ∧ tooS sp ⟨i, -1⟩ = (sAt sp i).s := by
 have e : sAt sp i = sp[i] := by unfold sAt; rw [List.getD_eq_getElem?_getD, gE h]; rfl
 rw [frmS_at h, tooS_at h, frmS_at h, tooS_at h, e]
 unfold frm too
 exact ⟨rfl, rfl, rfl, rfl⟩
theorem left_of {m : Nat} {sp : List Sn} {tk : List Nat} {be en : Int} (ht : ∀ i ∈ tk, i < sp.length) (hh : Held sp tk be en) {c : List (Int × List Stp) × List Int} (I : WI m sp tk be c) (C : Clo sp tk (fun _ => False) c) (hn : lkW c.1 en = none) : c.2 ≠ [] := fun z => by
 refine hh (fun x => lkW c.1 x ≠ none) (fun i hi => ?_) I.beg hn
 have hin := ht i hi
 obtain ⟨f1, f2, f3, f4⟩ := frmS_1 hin
 have m1 : (⟨i, 1⟩ : Stp) ∈ stepsF sp tk (sAt sp i).s := List.mem_filter.mpr ⟨List.mem_append_left _ (List.mem_map.mpr ⟨i, hi, rfl⟩), decide_eq_true f1⟩
 have m2 : (⟨i, -1⟩ : Stp) ∈ stepsF sp tk (sAt sp i).g := List.mem_filter.mpr ⟨List.mem_append_right _ (List.mem_map.mpr ⟨i, hi, rfl⟩), decide_eq_true f3⟩
 constructor
 ·intro h
  have := C _ h (by rw [z]; exact List.not_mem_nil) (fun z => z) _ m1
  rw [f2] at this; exact this
 ·intro h
  have := C _ h (by rw [z]; exact List.not_mem_nil) (fun z => z) _ m2
  rw [f4] at this; exact this
theorem WayR.pth {m : Nat} {sp : List Sn} {tk : List Nat} {be en : Int} (E : Ends m sp) (m16 : m ≤ 16) (ht : ∀ i ∈ tk, i < sp.length) (b0 : 0 ≤ be) (b1 : be < m) (hh : Held sp tk be en) {p : List Stp} (h : WayR sp tk be en p) : Pth sp tk be en p := by
 obtain ⟨k, h1, h2⟩ := h
 have key : ∀ j, j ≤ k → WI m sp tk be (itW sp tk be j) ∧ Clo sp tk (fun _ => False) (itW sp tk be j) := by
  intro j
  induction j with
  | zero => intro _; exact start_ok b0 b1
  | succ j ih =>
   intro hj
   obtain ⟨I, C⟩ := ih (by omega)
   obtain ⟨a, b, _⟩ := turn_ok E m16 ht I C (left_of ht hh I C (h2 j (by omega)))
   exact ⟨a, b⟩
 exact ((key k (Nat.le_refl _)).1.pth en p h1).1
theorem Along.nodes {sp : List Sn} : ∀ {ws : List Stp} {x y : Int}, Along sp x ws y → x :: ws.map (tooS sp) = ws.map (frmS sp) ++ [y]
 | [], x, y, h => by
  have h : x = y := h
  rw [h]; rfl
 | s :: ws, x, y, h => by
  obtain ⟨h1, h2⟩ := h
  rw [List.map_cons, List.map_cons, List.cons_append, ← Along.nodes h2, h1]
theorem Pth.len {m : Nat} {sp : List Sn} {tk : List Nat} {be en : Int} {p : List Stp} (E : Ends m sp) (b0 : 0 ≤ be) (b1 : be < m) (h : Pth sp tk be en p) : p.length + 1 ≤ m := by
 have := sub_len h.met (k := grp0 m) fun x hx => by
  have key : ∀ x : Int, 0 ≤ x → x < m → x ∈ grp0 m := fun x x0 x1 => by
   unfold grp0
   exact List.mem_map.mpr ⟨x.toNat, List.mem_range.mpr (by omega), Int.toNat_of_nonneg x0⟩
  rcases List.mem_cons.mp hx with rfl | hx
  ·exact key _ b0 b1
  ·obtain ⟨s, hs, rfl⟩ := List.mem_map.mp hx
   have t := tooS_rng E (h.inn s hs).2.1
   exact key _ t.1 t.2
 rw [List.length_cons, List.length_map, grp0_len] at this
 exact this
theorem Pth.ring {m : Nat} {sp : List Sn} {tk : List Nat} {k : Nat} {p : List Stp} (E : Ends m sp) (m16 : m ≤ 16) (hk : k < sp.length) (ne : (sAt sp k).s ≠ (sAt sp k).g) (out : k ∉ tk) (h : Pth sp tk (sAt sp k).g (sAt sp k).s p) : Rg sp (⟨k, 1⟩ :: p) ∧ (∀ s ∈ p, s.i ∈ tk) ∧ ((⟨k, 1⟩ :: p).map (frmS sp)).Nodup := by
 obtain ⟨a0, a1, b0, b1⟩ := E _ (sAt_mem hk)
 have e : sAt sp k = sp[k] := by unfold sAt; rw [List.getD_eq_getElem?_getD, gE hk]; rfl
 have ln := h.len E b0 b1
 refine ⟨Bk.ring hk (by rw [← e]; exact ne) ⟨fun s hs => (h.inn s hs).2, by rw [← e]; exact h.alo, h.one, fun s hs z => out ?_⟩ (by omega), fun s hs => (h.inn s hs).1, ?_⟩
 ·have z : s.i = k := by omega
  rw [← z]; exact (h.inn s hs).1
 ·have hm := h.met
  rw [h.alo.nodes] at hm
  rw [List.map_cons, (frmS_1 hk).1]
  obtain ⟨n1, _, n3⟩ := List.nodup_append.mp hm
  exact List.nodup_cons.mpr ⟨fun z => n3 _ z _ (List.mem_singleton.mpr rfl) rfl, n1⟩
end HN
namespace HN
open PySem L2 PyProof.Rows
theorem Held.more {sp : List Sn} {tk tk' : List Nat} {x y : Int} (h : ∀ i ∈ tk, i ∈ tk') (k : Held sp tk x y) : Held sp tk' x y := fun S hS => k S fun i hi => hS i (h i hi)
theorem Held.trans {sp : List Sn} {tk : List Nat} {x y z : Int} (a : Held sp tk x y) (c : Held sp tk y z) : Held sp tk x z := fun S hS h => c S hS (a S hS h)
theorem Held.symm {sp : List Sn} {tk : List Nat} {x y : Int} (a : Held sp tk x y) : Held sp tk y x := fun S hS h => Classical.byContradiction fun n => a (fun z => ¬ S z) (fun i hi => not_congr (hS i hi)) n h
inductive Acy (sp : List Sn) : List Nat → Prop where
 | nil : Acy sp []
 | snoc {tk : List Nat} {k : Nat} (h : Acy sp tk) (hk : k < sp.length) (s : ∃ S : Int → Prop, (∀ i ∈ tk, S (sAt sp i).s ↔ S (sAt sp i).g) ∧ S (sAt sp k).s ∧ ¬ S (sAt sp k).g) : Acy sp (tk ++ [k])
theorem Acy.pot {sp : List Sn} {tk : List Nat} (h : Acy sp tk) (y : Nat → Int) : ∃ π : Int → Int, ∀ i ∈ tk, π (sAt sp i).g - π (sAt sp i).s = y i := by
 induction h with
 | nil => exact ⟨fun _ => 0, fun _ h => absurd h (by simp)⟩
 | snoc h hk s ih =>
  rename_i tk k
  obtain ⟨π, hπ⟩ := ih
  obtain ⟨S, hS, s1, s2⟩ := s
  have dec : ∀ x, Decidable (S x) := fun x => Classical.propDecidable _
  refine ⟨fun x => if S x then π x else π x + (y k - (π (sAt sp k).g - π (sAt sp k).s)), fun i hi => ?_⟩
  rcases List.mem_append.mp hi with hi | hi
  ·have e := hπ i hi
   have f := hS i hi
   show (if S (sAt sp i).g then _ else _) - (if S (sAt sp i).s then _ else _) = _
   by_cases c : S (sAt sp i).s
   ·rw [if_pos c, if_pos (f.mp c)]; exact e
   ·rw [if_neg c, if_neg (fun z => c (f.mpr z))]; omega
  ·rw [List.mem_singleton.mp hi]
   show (if S (sAt sp k).g then _ else _) - (if S (sAt sp k).s then _ else _) = _
   rw [if_neg s2, if_pos s1]; omega
theorem Acy.nodup {sp : List Sn} {tk : List Nat} (h : Acy sp tk) : tk.Nodup ∧ ∀ i ∈ tk, i < sp.length := by
 induction h with
 | nil => exact ⟨List.nodup_nil, fun _ h => absurd h (by simp)⟩
 | snoc h hk s ih =>
  rename_i tk k
  obtain ⟨S, hS, s1, s2⟩ := s
  refine ⟨List.nodup_append.mpr ⟨ih.1, by simp, fun a ha c hc e => ?_⟩, fun i hi => ?_⟩
  ·rw [List.mem_singleton.mp hc] at e
   subst e
   exact s2 ((hS _ ha).mp s1)
  ·rcases List.mem_append.mp hi with hi | hi
   ·exact ih.2 i hi
   ·rw [List.mem_singleton.mp hi]; exact hk
structure Gd (m : Nat) (sp : List Sn) (gs : List Int) (tk : List Nat) : Prop where
 len : gs.length = m
 eq : ∀ i ∈ tk, tm gs (sAt sp i).s = tm gs (sAt sp i).g
 held : ∀ x y : Int, 0 ≤ x → x < m → 0 ≤ y → y < m → tm gs x = tm gs y → Held sp tk x y
 acy : Acy sp tk
 cnt : Cnt m gs tk.length
theorem Gd.start (m : Nat) (sp : List Sn) : Gd m sp (grp0 m) [] := by
 refine ⟨grp0_len m, fun _ h => absurd h (by simp), fun x y x0 x1 y0 y1 e => ?_, .nil, Cnt.start m⟩
 rw [tm_grp0 x0 x1, tm_grp0 y0 y1] at e
 subst e
 exact fun S _ h => h
theorem Gd.step {m : Nat} {sp : List Sn} {gs : List Int} {tk : List Nat} {i : Nat} (E : Ends m sp) (g : Gd m sp gs tk) (hi : i < sp.length) : Gd m sp (stepG sp (gs, tk) i).1 (stepG sp (gs, tk) i).2 := by
 obtain ⟨s0, s1, g0, g1⟩ := E _ (sAt_mem hi)
 unfold stepG
 by_cases e : tm gs (sAt sp i).s = tm gs (sAt sp i).g
 ·rw [if_pos e]; exact g
 ·rw [if_neg e]
  have l := g.len
  have old : ∀ j ∈ tk, j < sp.length := g.acy.nodup.2
  have jt : ∀ x : Int, 0 ≤ x → x < m → tm (joinG gs (tm gs (sAt sp i).s) (tm gs (sAt sp i).g)) x = if tm gs x = tm gs (sAt sp i).g then tm gs (sAt sp i).s else tm gs x := fun x x0 x1 => tm_join x0 (by omega)
  have up : ∀ {x y : Int}, Held sp tk x y → Held sp (tk ++ [i]) x y := fun h => h.more fun j hj => List.mem_append_left _ hj
  have ed : Held sp (tk ++ [i]) (sAt sp i).s (sAt sp i).g := fun S hS h => (hS i (List.mem_append_right _ (List.mem_singleton.mpr rfl))).mp h
  refine ⟨by show (joinG _ _ _).length = m; rw [joinG_len]; exact l, fun j hj => ?_, fun x y x0 x1 y0 y1 h => ?_, .snoc g.acy hi ⟨fun x => tm gs x = tm gs (sAt sp i).s, fun j hj => by show tm gs _ = _ ↔ tm gs _ = _; rw [g.eq j hj], rfl, fun z => e z.symm⟩, ?_⟩
  ·show tm (joinG _ _ _) _ = tm (joinG _ _ _) _
   rcases List.mem_append.mp hj with hj | hj
   ·obtain ⟨a0, a1, b0, b1⟩ := E _ (sAt_mem (old j hj))
    rw [jt _ a0 a1, jt _ b0 b1, g.eq j hj]
   ·rw [List.mem_singleton.mp hj, jt _ s0 s1, jt _ g0 g1, if_pos rfl, if_neg e]
  ·have h : tm (joinG _ _ _) x = tm (joinG _ _ _) y := h
   rw [jt x x0 x1, jt y y0 y1] at h
   show Held sp (tk ++ [i]) x y
   by_cases c1 : tm gs x = tm gs (sAt sp i).g
   ·by_cases c2 : tm gs y = tm gs (sAt sp i).g
    ·exact up (g.held x y x0 x1 y0 y1 (c1.trans c2.symm))
    ·rw [if_pos c1, if_neg c2] at h
     exact (up (g.held x _ x0 x1 g0 g1 c1)).trans (ed.symm.trans (up (g.held _ y s0 s1 y0 y1 h)))
   ·by_cases c2 : tm gs y = tm gs (sAt sp i).g
    ·rw [if_neg c1, if_pos c2] at h
     exact (up (g.held x _ x0 x1 s0 s1 h)).trans (ed.trans (up (g.held _ y g0 g1 y0 y1 c2.symm)))
    ·rw [if_neg c1, if_neg c2] at h
     exact up (g.held x y x0 x1 y0 y1 h)
  ·show Cnt m (joinG _ _ _) (tk ++ [i]).length
   rw [List.length_append]
   exact g.cnt.join (tm_mem s0 (by omega)) (tm_mem g0 (by omega)) e
theorem Gd.few {m : Nat} {sp : List Sn} {gs : List Int} {tk : List Nat} (g : Gd m sp gs tk) (h : 0 < m) : tk.length < m := by
 obtain ⟨D, _, mem, l⟩ := g.cnt
 have : D ≠ [] := fun z => by
  have h0 : tm gs 0 ∈ gs := tm_mem (Int.le_refl 0) (by rw [g.len]; omega)
  have := (mem _).mpr h0
  rw [z] at this
  cases this
 have := List.length_pos_iff.mpr this
 omega
theorem along_tm {sp : List Sn} {gs : List Int} {tk : List Nat} (h : ∀ i ∈ tk, i < sp.length ∧ tm gs (sAt sp i).s = tm gs (sAt sp i).g) : ∀ (ws : List Stp) (x y : Int), (∀ s ∈ ws, s.i ∈ tk ∧ (s.d = 1 ∨ s.d = -1)) → Along sp x ws y → tm gs x = tm gs y
 | [], x, y, _, a => by cases a; rfl
 | s :: ws, x, y, hw, a => by
  obtain ⟨a1, a2⟩ := a
  have ih := along_tm h ws _ y (fun t ht => hw t (List.mem_cons_of_mem _ ht)) a2
  obtain ⟨h1, h2⟩ := hw s (by simp)
  obtain ⟨h3, h4⟩ := h s.i h1
  obtain ⟨f1, f2, f3, f4⟩ := frmS_1 h3
  obtain ⟨i, d⟩ := s
  have h2 : d = 1 ∨ d = -1 := h2
  rw [← ih, ← a1]
  rcases h2 with rfl | rfl
  ·rw [f1, f2]; exact h4
  ·rw [f3, f4]; exact h4.symm
structure RK (sp : List Sn) (tk : List Nat) (q : Nat × List Stp) : Prop where
 lt : q.1 < sp.length
 out : q.1 ∉ tk
 way : ∃ p, q.2 = ⟨q.1, 1⟩ :: p ∧ Pth sp tk (sAt sp q.1).g (sAt sp q.1).s p
theorem RK.rg {b m : Int} {sp : List Sn} {tk : List Nat} {q : Nat × List Stp} (N : NetT b m sp) (h : RK sp tk q) (hl : tk.length ≤ 15) : Rg sp q.2 := by
 obtain ⟨p, e, P⟩ := h.way
 have hk := h.lt
 have eA : sAt sp q.1 = sp[q.1] := by unfold sAt; rw [List.getD_eq_getElem?_getD, gE hk]; rfl
 rw [e]
 refine Bk.ring hk (N.all _ (List.getElem_mem hk)).ne ⟨fun s hs => (P.inn s hs).2, by rw [← eA]; exact P.alo, P.one, fun s hs z => ?_⟩ ?_
 ·have z : s.i = q.1 := by omega
  exact h.out (z ▸ (P.inn s hs).1)
 ·have hn : ((p.map Stp.i).map fun n : Nat => (n : Int)).Nodup := by
   rw [List.nodup_iff_pairwise_ne, List.pairwise_map]
   exact (List.nodup_iff_pairwise_ne.mp P.one).imp fun hh e => hh (by omega)
  have := sub_len (l := (p.map Stp.i).map fun n : Nat => (n : Int)) (k := tk.map fun n : Nat => (n : Int)) hn fun x hx => by
   obtain ⟨i, hi, rfl⟩ := List.mem_map.mp hx
   obtain ⟨s, hs, rfl⟩ := List.mem_map.mp hi
   exact List.mem_map.mpr ⟨_, (P.inn s hs).1, rfl⟩
  rw [List.length_map, List.length_map, List.length_map] at this
  omega
structure OB (sp : List Sn) (tk : List Nat) (bs : List (Int × Int)) : Prop where
 len : bs.length = sp.length
 out : ∀ k, k < sp.length → k ∉ tk → bs.getD k (0, 0) = ((sAt sp k).l, (sAt sp k).o)
 lo : ∀ k, k < sp.length → (sAt sp k).l ≤ (bs.getD k (0, 0)).1 ∧ (bs.getD k (0, 0)).1 ≤ (bs.getD k (0, 0)).2 ∧ (bs.getD k (0, 0)).2 ≤ (sAt sp k).o
theorem getD_set {bs : List (Int × Int)} {k j : Nat} {x : Int × Int} (hj : j < bs.length) : (bs.set k x).getD j (0, 0) = if k = j then x else bs.getD j (0, 0) := by
 rw [List.getD_eq_getElem?_getD]
 by_cases e : k = j
 ·subst e
  rw [List.getElem?_set_self hj, if_pos rfl]; rfl
 ·rw [List.getElem?_set_ne e, if_neg e, ← List.getD_eq_getElem?_getD]
theorem OB.one {sp : List Sn} {tk : List Nat} {bs : List (Int × Int)} {k : Nat} {a : Int} (h : OB sp tk bs) (hk : k ∈ tk) (hn : k < sp.length) (h1 : (bs.getD k (0, 0)).1 ≤ a) (h2 : a < (bs.getD k (0, 0)).2) : OB sp tk (oneB bs k a) := by
 have l := h.len
 refine ⟨by rw [one_len]; exact l, fun j hj hjn => ?_, fun j hj => ?_⟩
 ·unfold oneB
  rw [getD_set (by omega), if_neg (fun (z : k = j) => hjn (z ▸ hk))]; exact h.out j hj hjn
 ·unfold oneB
  rw [getD_set (by omega)]
  have := h.lo j hj
  by_cases e : k = j
  ·rw [if_pos e]
   subst e
   exact ⟨this.1, h1, by show a ≤ _; omega⟩
  ·rw [if_neg e]; exact this
theorem OB.other {sp : List Sn} {tk : List Nat} {bs : List (Int × Int)} {k : Nat} {a : Int} (h : OB sp tk bs) (hk : k ∈ tk) (hn : k < sp.length) (h1 : (bs.getD k (0, 0)).1 ≤ a) (h2 : a < (bs.getD k (0, 0)).2) : OB sp tk (otherB bs k a) := by
 have l := h.len
 refine ⟨by rw [other_len]; exact l, fun j hj hjn => ?_, fun j hj => ?_⟩
 ·unfold otherB
  rw [getD_set (by omega), if_neg (fun (z : k = j) => hjn (z ▸ hk))]; exact h.out j hj hjn
 ·unfold otherB
  rw [getD_set (by omega)]
  have := h.lo j hj
  by_cases e : k = j
  ·rw [if_pos e]
   subst e
   exact ⟨by show _ ≤ a + 1; omega, by show a + 1 ≤ (bs.getD k (0, 0)).2; omega, this.2.2⟩
  ·rw [if_neg e]; exact this
theorem OB.first {b m : Int} {sp : List Sn} (N : NetT b m sp) (tk : List Nat) : OB sp tk (sp.map fun x => (x.l, x.o)) := by
 have e : ∀ k, k < sp.length → (sp.map fun x => (x.l, x.o)).getD k (0, 0) = ((sAt sp k).l, (sAt sp k).o) := fun k hk => by
  rw [List.getD_eq_getElem?_getD, List.getElem?_map, sAt_of hk]; rfl
 refine ⟨List.length_map .., fun k hk _ => e k hk, fun k hk => ?_⟩
 rw [e k hk]
 have := N.all _ (sAt_mem hk)
 exact ⟨Int.le_refl _, this.lo, Int.le_refl _⟩
def rowsR (sp : List Sn) (rg : List (Nat × List Stp)) : List (Int × List Stp) := rg.map fun q => ((sAt sp q.1).w, q.2)
structure Fx (b : Int) (tk : List Nat) (rg : List (Nat × List Stp)) (bs : List (Int × Int)) : Prop where
 fix : ∀ k ∈ tk, (bs.getD k (0, 0)).1 = (bs.getD k (0, 0)).2
 alive : ∀ q ∈ rg, deadB b bs q.2 = false
def FullT (b : Int) (sp : List Sn) (tk : List Nat) (rg : List (Nat × List Stp)) : Tq → List (Int × Int) → Prop
 | .leaf d, bs => (∃ q ∈ rg, d = leafP (.ring q.2) ∧ deadB b bs q.2 = true) ∨ (d = leafP (.price (rowsR sp rg)) ∧ Fx b tk rg bs)
 | .cut k a x y, bs => k ∈ tk ∧ (bs.getD k (0, 0)).1 ≤ a ∧ a < (bs.getD k (0, 0)).2 ∧ FullT b sp tk rg x (oneB bs k a) ∧ FullT b sp tk rg y (otherB bs k a)
structure FF (m : Int) (sp : List Sn) (tk : List Nat) (rg : List (Nat × List Stp)) : Prop where
 acy : Acy sp tk
 few : (tk.length : Int) < m
 rk : ∀ q ∈ rg, RK sp tk q
 all : ∀ k, k < sp.length → k ∉ tk → ∃ r, (k, r) ∈ rg
 one : (rg.map (·.1)).Nodup
theorem low_fix {bs : List (Int × Int)} {tk : List Nat} (h : ∀ k ∈ tk, k < bs.length ∧ (bs.getD k (0, 0)).1 = (bs.getD k (0, 0)).2) : ∀ (p : List Stp), (∀ s ∈ p, s.i ∈ tk ∧ (s.d = 1 ∨ s.d = -1)) → sumLo bs p = alg (fun k => (bs.getD k (0, 0)).1) p ∧ sumHi bs p = alg (fun k => (bs.getD k (0, 0)).1) p
 | [], _ => ⟨rfl, rfl⟩
 | s :: p, hp => by
  obtain ⟨i1, i2⟩ := low_fix h p fun t ht => hp t (List.mem_cons_of_mem _ ht)
  obtain ⟨h1, h2⟩ := hp s (by simp)
  obtain ⟨h3, h4⟩ := h s.i h1
  have e : bs.getD s.i (0, 0) = bs[s.i] := by rw [List.getD_eq_getElem?_getD, gE h3]; rfl
  have e1 : sumLo bs (s :: p) = lowS bs s + sumLo bs p := rfl
  have e2 : sumHi bs (s :: p) = highS bs s + sumHi bs p := rfl
  have f1 : lowS bs s = if s.d = 1 then bs[s.i].1 else -bs[s.i].2 := by unfold lowS; rw [gE h3]
  have f2 : highS bs s = if s.d = 1 then bs[s.i].2 else -bs[s.i].1 := by unfold highS; rw [gE h3]
  rw [e] at h4
  rw [e1, e2, f1, f2, i1, i2]
  show _ = s.d * (bs.getD s.i (0, 0)).1 + _ ∧ _ = s.d * (bs.getD s.i (0, 0)).1 + _
  rw [e]
  rcases h2 with d1 | d1
  ·rw [d1, if_pos rfl, if_pos rfl]; omega
  ·rw [d1, if_neg (by decide), if_neg (by decide)]; omega
theorem sums_ring {sp : List Sn} {tk : List Nat} {bs : List (Int × Int)} {q : Nat × List Stp} (h : RK sp tk q) (O : OB sp tk bs) (fix : ∀ k ∈ tk, (bs.getD k (0, 0)).1 = (bs.getD k (0, 0)).2) :
  ∃ p, q.2 = ⟨q.1, 1⟩ :: p ∧ Pth sp tk (sAt sp q.1).g (sAt sp q.1).s p ∧ sumLo bs q.2 = (sAt sp q.1).l + alg (fun k => (bs.getD k (0, 0)).1) p ∧ sumHi bs q.2 = (sAt sp q.1).o + alg (fun k => (bs.getD k (0, 0)).1) p := by
 obtain ⟨p, e, P⟩ := h.way
 have hk := h.lt
 have l := O.len
 obtain ⟨a1, a2⟩ := low_fix (bs := bs) (tk := p.map Stp.i) (fun k hk' => by
  obtain ⟨s, hs, rfl⟩ := List.mem_map.mp hk'
  exact ⟨by rw [l]; exact (P.inn s hs).2.1, fix _ (P.inn s hs).1⟩) p fun s hs => ⟨List.mem_map.mpr ⟨s, hs, rfl⟩, (P.inn s hs).2.2⟩
 have eb := O.out q.1 hk h.out
 have hb : q.1 < bs.length := by omega
 have e0 : bs.getD q.1 (0, 0) = bs[q.1] := by rw [List.getD_eq_getElem?_getD, gE hb]; rfl
 refine ⟨p, e, P, ?_, ?_⟩
 ·rw [e, show sumLo bs (⟨q.1, 1⟩ :: p) = lowS bs ⟨q.1, 1⟩ + sumLo bs p from rfl, a1]
  congr 1
  unfold lowS
  show (match bs[q.1]? with | some p => if (1 : Int) = 1 then p.1 else -p.2 | none => 0) = _
  rw [gE hb]
  show (if (1 : Int) = 1 then bs[q.1].1 else _) = _
  rw [if_pos rfl, ← e0, eb]
 ·rw [e, show sumHi bs (⟨q.1, 1⟩ :: p) = highS bs ⟨q.1, 1⟩ + sumHi bs p from rfl, a2]
  congr 1
  unfold highS
  show (match bs[q.1]? with | some p => if (1 : Int) = 1 then p.2 else -p.1 | none => 0) = _
  rw [gE hb]
  show (if (1 : Int) = 1 then bs[q.1].2 else _) = _
  rw [if_pos rfl, ← e0, eb]
theorem beat_one {b lo hi : Int} (hb : 0 < b) (h : upB b lo ≤ hi / b) (hw : hi - lo < b) : upB b lo = hi / b ∧ lo ≤ b * upB b lo ∧ b * upB b lo ≤ hi := by
 have e := Int.mul_ediv_add_emod (-lo) b
 have r0 := Int.emod_nonneg (-lo) (by omega : b ≠ 0)
 have r1 := Int.emod_lt_of_pos (-lo) hb
 have e' := Int.mul_ediv_add_emod hi b
 have r0' := Int.emod_nonneg hi (by omega : b ≠ 0)
 have r1' := Int.emod_lt_of_pos hi hb
 unfold upB at h ⊢
 generalize -lo / b = u at *
 generalize hi / b = v at *
 have m1 : b * -u = -(b * u) := Int.mul_neg ..
 have h2 : b * -u ≤ b * v := Int.mul_le_mul_of_nonneg_left h (by omega)
 refine ⟨?_, by omega, by omega⟩
 rcases Int.lt_or_le (-u) v with c | c
 ·have : b * (-u + 1) ≤ b * v := Int.mul_le_mul_of_nonneg_left (by omega) (by omega)
  rw [Int.mul_add, Int.mul_one] at this
  omega
 ·omega
theorem fx_sure {b m : Int} {sp : List Sn} {tk : List Nat} {rg : List (Nat × List Stp)} {bs : List (Int × Int)} (N : NetT b m sp) (f : FF m sp tk rg) (O : OB sp tk bs) (x : Fx b tk rg bs) : LfOk b sp bs (.price (rowsR sp rg)) := by
 have m2 := N.m2
 have fw := f.few
 have tl : tk.length ≤ 15 := by omega
 refine ⟨?_, fun r hr => ?_⟩
 ·show (rg.map _).length ≤ 40
  rw [List.length_map]
  have hn : ((rg.map (·.1)).map fun n : Nat => (n : Int)).Nodup := by
   rw [List.nodup_iff_pairwise_ne, List.pairwise_map]
   exact (List.nodup_iff_pairwise_ne.mp f.one).imp fun hh e => hh (by omega)
  have := sub_len (l := (rg.map (·.1)).map fun n : Nat => (n : Int)) (k := (List.range sp.length).map fun n : Nat => (n : Int)) hn fun z hz => by
   obtain ⟨i, hi, rfl⟩ := List.mem_map.mp hz
   obtain ⟨q, hq, rfl⟩ := List.mem_map.mp hi
   exact List.mem_map.mpr ⟨_, List.mem_range.mpr (f.rk q hq).lt, rfl⟩
  rw [List.length_map, List.length_map, List.length_map, List.length_range] at this
  have := N.few
  omega
 ·obtain ⟨q, hq, rfl⟩ := List.mem_map.mp hr
  have K := f.rk q hq
  have sn := N.all _ (sAt_mem K.lt)
  refine ⟨K.rg N tl, ?_, by have := sn.w0; show -1000000000000 ≤ (sAt sp q.1).w; omega, sn.w1⟩
  obtain ⟨p, e, P, e1, e2⟩ := sums_ring K O x.fix
  have al := x.alive q hq
  have al : ¬ (upB b (sumLo bs q.2) > sumHi bs q.2 / b) := by
   unfold deadB at al
   simpa using al
  show decide (upB b (sumLo bs q.2) = sumHi bs q.2 / b) = true
  refine decide_eq_true (beat_one (by have := N.b1; omega) (by omega) ?_).1
  have := sn.ob
  rw [e1, e2]; omega
theorem full_dr {b m : Int} {sp : List Sn} {tk : List Nat} {rg : List (Nat × List Stp)} (N : NetT b m sp) (f : FF m sp tk rg) : ∀ (t : Tq) (bs : List (Int × Int)), FullT b sp tk rg t bs → OB sp tk bs → DrT b sp t bs
 | .leaf d, bs, h, O => by
  have m2 := N.m2
  have fw := f.few
  rcases h with ⟨q, hq, rfl, hd⟩ | ⟨rfl, x⟩
  ·exact ⟨.ring q.2, rfl, (f.rk q hq).rg N (by omega), hd⟩
  ·exact ⟨_, rfl, fx_sure N f O x⟩
 | .cut k a t1 t2, bs, h, O => by
  obtain ⟨h1, h2, h3, h4, h5⟩ := h
  have hn := f.acy.nodup.2 k h1
  exact ⟨by rw [O.len]; exact hn, h2, h3, full_dr N f t1 _ h4 (O.one h1 hn h2 h3), full_dr N f t2 _ h5 (O.other h1 hn h2 h3)⟩
end HN
namespace HN
open PySem L2 PyProof.Rows
theorem alg_pot {sp : List Sn} {tk : List Nat} {y : Nat → Int} {π : Int → Int} (ht : ∀ i ∈ tk, i < sp.length) (hπ : ∀ i ∈ tk, π (sAt sp i).g - π (sAt sp i).s = y i) : ∀ (p : List Stp) (u z : Int), (∀ s ∈ p, s.i ∈ tk ∧ (s.d = 1 ∨ s.d = -1)) → Along sp u p z → alg y p = π z - π u
 | [], u, z, _, a => by
  have a : u = z := a
  subst a
  show (0 : Int) = _; omega
 | s :: p, u, z, hp, a => by
  obtain ⟨a1, a2⟩ := a
  have ih := alg_pot ht hπ p _ z (fun t h => hp t (List.mem_cons_of_mem _ h)) a2
  obtain ⟨h1, h2⟩ := hp s (by simp)
  obtain ⟨f1, f2, f3, f4⟩ := frmS_1 (ht s.i h1)
  have e := hπ s.i h1
  obtain ⟨i, d⟩ := s
  dsimp only at e f1 f2 f3 f4
  have h2 : d = 1 ∨ d = -1 := h2
  show d * y i + alg y p = _
  rw [ih, ← a1]
  rcases h2 with rfl | rfl
  ·rw [f1, f2]; show 1 * y i + _ = _; omega
  ·rw [f3, f4]; show -1 * y i + _ = _; omega
def potT (b : Int) (π : Int → Int) (m : Nat) : List Int := (List.range m).map fun x : Nat => (π (x : Nat) - π 0) % b
theorem potT_at {b : Int} {π : Int → Int} {m : Nat} {x : Int} (h0 : 0 ≤ x) (h1 : x < m) : tm (potT b π m) x = (π x - π 0) % b := by
 obtain ⟨n, rfl⟩ := Int.eq_ofNat_of_zero_le h0
 unfold tm potT
 rw [Int.toNat_natCast, List.getD_eq_getElem?_getD, List.getElem?_map, List.getElem?_range (by omega)]; rfl
theorem wait_pot {b : Int} {π : Int → Int} {m : Nat} {x : Sn} (s0 : 0 ≤ x.s) (s1 : x.s < m) (g0 : 0 ≤ x.g) (g1 : x.g < m) : waitM b (potT b π m) x = (π x.g - π x.s - x.l) % b := by
 unfold waitM
 rw [potT_at s0 s1, potT_at g0 g1, rest_two]
 congr 1; omega
theorem rest_in {b Y l Z : Int} (h0 : l ≤ Y) (h1 : Y < l + b) : (Y - b * Z - l) % b = Y - l := by
 rw [show Y - b * Z - l = (Y - l) + b * (-Z) by rw [Int.mul_neg]; omega, Int.add_mul_emod_self_left]
 exact Int.emod_eq_of_lt (by omega) (by omega)
theorem sg_no {k : Nat} : ∀ (p : List Stp), (∀ s ∈ p, s.i ≠ k) → sg k p = 0
 | [], _ => rfl
 | s :: p, h => by
  show (if s.i = k then s.d else 0) + sg k p = 0
  rw [if_neg (h s (by simp)), sg_no p fun t ht => h t (List.mem_cons_of_mem _ ht)]; rfl
theorem sgR_no {sp : List Sn} {tk : List Nat} {k : Nat} (hk : k ∉ tk) : ∀ (rg : List (Nat × List Stp)), (∀ q ∈ rg, RK sp tk q) → k ∉ rg.map (·.1) → sgR k (rowsR sp rg) = 0
 | [], _, _ => rfl
 | q :: rg, h, hn => by
  have ih := sgR_no hk rg (fun t ht => h t (List.mem_cons_of_mem _ ht)) fun z => hn (List.mem_cons_of_mem _ z)
  show (sAt sp q.1).w * sg k q.2 + sgR k (rowsR sp rg) = 0
  obtain ⟨p, e, P⟩ := (h q (by simp)).way
  rw [ih, e, sg_no _ fun s hs => ?_, Int.mul_zero]; rfl
  rcases List.mem_cons.mp hs with rfl | hs
  ·exact fun z => hn (by show k ∈ q.1 :: _; rw [show k = q.1 from z.symm]; simp)
  ·exact fun z => hk (z ▸ (P.inn s hs).1)
theorem sgR_own {sp : List Sn} {tk : List Nat} {k : Nat} (hk : k ∉ tk) : ∀ (rg : List (Nat × List Stp)), (∀ q ∈ rg, RK sp tk q) → (rg.map (·.1)).Nodup → k ∈ rg.map (·.1) → sgR k (rowsR sp rg) = (sAt sp k).w
 | [], _, _, h => absurd h (by simp)
 | q :: rg, h, hn, hm => by
  rw [List.map_cons, List.nodup_cons] at hn
  show (sAt sp q.1).w * sg k q.2 + sgR k (rowsR sp rg) = _
  obtain ⟨p, e, P⟩ := (h q (by simp)).way
  have hp : ∀ s ∈ p, s.i ≠ k := fun s hs z => hk (z ▸ (P.inn s hs).1)
  have e2 : sg k q.2 = if q.1 = k then 1 else 0 := by
   rw [e]
   show (if q.1 = k then (1 : Int) else 0) + sg k p = _
   rw [sg_no p hp, Int.add_zero]
  rw [e2]
  by_cases c : q.1 = k
  ·rw [if_pos c, c, Int.mul_one, sgR_no hk rg (fun t ht => h t (List.mem_cons_of_mem _ ht)) (c ▸ hn.1), Int.add_zero]
  ·rw [if_neg c, Int.mul_zero, Int.zero_add]
   exact sgR_own hk rg (fun t ht => h t (List.mem_cons_of_mem _ ht)) hn.2 ((List.mem_cons.mp hm).resolve_left fun z => c z.symm)
theorem mem_allT {b : Nat} : ∀ (n : Nat) (ts : List Int), ts.length = n → (∀ x ∈ ts, 0 ≤ x ∧ x < (b : Int)) → ts ∈ allT b n
 | 0, ts, h, _ => by rw [List.length_eq_zero_iff.mp h]; exact List.mem_singleton.mpr rfl
 | n + 1, ts, h, hx => by
  have hne : ts ≠ [] := fun z => by rw [z] at h; cases h
  have e := List.dropLast_concat_getLast hne
  have hd : ts.dropLast ∈ allT b n := mem_allT n _ (by rw [List.length_dropLast]; omega) fun x h' => hx x ((List.dropLast_sublist _).subset h')
  obtain ⟨l0, l1⟩ := hx _ (List.getLast_mem hne)
  obtain ⟨c, hc⟩ := Int.eq_ofNat_of_zero_le l0
  refine List.mem_flatMap.mpr ⟨ts.dropLast, hd, List.mem_map.mpr ⟨c, List.mem_range.mpr (by omega), ?_⟩⟩
  rw [Int.zero_add]
  show ts.dropLast ++ [((c : Nat) : Int)] = ts
  rw [show ((c : Nat) : Int) = ts.getLast hne from hc.symm]
  exact e
theorem tight {b m : Int} {sp : List Sn} {tk : List Nat} {rg : List (Nat × List Stp)} {bs : List (Int × Int)} (N : NetT b m sp) (f : FF m sp tk rg) (O : OB sp tk bs) (x : Fx b tk rg bs) :
  ∃ ts ∈ allT b.toNat m.toNat, ts.getD 0 0 = 0 ∧ fitsM b ts sp = true ∧ waitOfM b ts sp = worthM b sp bs (rowsR sp rg) := by
 have hb : 0 < b := by have := N.b1; omega
 have m1 := N.m1
 obtain ⟨ht1, ht2⟩ := f.acy.nodup
 obtain ⟨π, hπ⟩ := f.acy.pot fun k => (bs.getD k (0, 0)).1
 have eW : ∀ k, k < sp.length → waitM b (potT b π m.toNat) (sAt sp k) = (π (sAt sp k).g - π (sAt sp k).s - (sAt sp k).l) % b := fun k hk => by
  have s := N.all _ (sAt_mem hk)
  exact wait_pot s.s0 (by have := s.s1; omega) s.g0 (by have := s.g1; omega)
 have key : ∀ k, k < sp.length → ∃ Y, waitM b (potT b π m.toNat) (sAt sp k) = Y - (sAt sp k).l ∧ (bs.getD k (0, 0)).1 ≤ Y ∧ Y ≤ (bs.getD k (0, 0)).2 := fun k hk => by
  have s := N.all _ (sAt_mem hk)
  have lo := O.lo k hk
  by_cases c : k ∈ tk
  ·have e := hπ k c
   have fx := x.fix k c
   refine ⟨(bs.getD k (0, 0)).1, ?_, Int.le_refl _, by omega⟩
   rw [eW k hk, show π (sAt sp k).g - π (sAt sp k).s - (sAt sp k).l = (bs.getD k (0, 0)).1 - b * 0 - (sAt sp k).l by rw [Int.mul_zero]; omega]
   exact rest_in lo.1 (by have := s.ob; omega)
  ·obtain ⟨r, hr⟩ := f.all k hk c
   have K := f.rk _ hr
   obtain ⟨p, e, P, e1, e2⟩ := sums_ring K O x.fix
   have al := x.alive _ hr
   have al : ¬ (upB b (sumLo bs r) > sumHi bs r / b) := by unfold deadB at al; simpa using al
   obtain ⟨_, z1, z2⟩ := beat_one hb (lo := sumLo bs r) (hi := sumHi bs r) (by omega) (by
    have e1 : sumLo bs r = _ := e1
    have e2 : sumHi bs r = _ := e2
    have := s.ob
    rw [e1, e2]; show (sAt sp k).o + _ - ((sAt sp k).l + _) < b; omega)
   have ea := alg_pot ht2 hπ p _ _ (fun s hs => ⟨(P.inn s hs).1, (P.inn s hs).2.2⟩) P.alo
   have e1 : sumLo bs r = (sAt sp k).l + alg (fun k => (bs.getD k (0, 0)).1) p := e1
   have e2 : sumHi bs r = (sAt sp k).o + alg (fun k => (bs.getD k (0, 0)).1) p := e2
   have ea : alg (fun k => (bs.getD k (0, 0)).1) p = π (sAt sp k).s - π (sAt sp k).g := ea
   have eo := O.out k hk c
   rw [eo]
   refine ⟨b * upB b (sumLo bs r) - alg (fun k => (bs.getD k (0, 0)).1) p, ?_, by show (sAt sp k).l ≤ _; omega, by show _ ≤ (sAt sp k).o; omega⟩
   rw [eW k hk]
   have hs := s.ob
   have := rest_in (b := b) (Y := b * upB b (sumLo bs r) - alg (fun k => (bs.getD k (0, 0)).1) p) (l := (sAt sp k).l) (Z := upB b (sumLo bs r)) (by omega) (by omega)
   rw [← this]
   congr 1; omega
 have lay : ∀ k, k < sp.length → layT b (potT b π m.toNat) sp k = (sAt sp k).l + waitM b (potT b π m.toNat) (sAt sp k) := fun k hk => by
  unfold layT
  rw [sAt_of hk]
 have hin : InB (layT b (potT b π m.toNat) sp) bs := fun k hk => by
  have hk : k < sp.length := by rw [← O.len]; exact hk
  obtain ⟨Y, e, y1, y2⟩ := key k hk
  rw [lay k hk, e]
  constructor <;> omega
 refine ⟨potT b π m.toNat, mem_allT _ _ (by unfold potT; rw [List.length_map, List.length_range]) (fun z hz => ?_), ?_, ?_, ?_⟩
 ·obtain ⟨i, _, rfl⟩ := List.mem_map.mp hz
  have h0 := Int.emod_nonneg (π (i : Nat) - π 0) (by omega : b ≠ 0)
  have h1 := Int.emod_lt_of_pos (π (i : Nat) - π 0) hb
  exact ⟨h0, by omega⟩
 ·have := potT_at (b := b) (π := π) (m := m.toNat) (x := 0) (Int.le_refl 0) (by omega)
  rw [Int.sub_self, Int.zero_emod] at this
  exact this
 ·unfold fitsM
  rw [Bool.not_eq_true', List.any_eq_false]
  intro s hs
  obtain ⟨k, hk, rfl⟩ := List.getElem_of_mem hs
  have eA : sAt sp k = sp[k] := by unfold sAt; rw [List.getD_eq_getElem?_getD, gE hk]; rfl
  obtain ⟨Y, e, y1, y2⟩ := key k hk
  have := (O.lo k hk).2.2
  rw [eA] at e this
  unfold brk
  rw [decide_eq_false (by omega)]; exact Bool.false_ne_true
 ·have rok : ∀ r ∈ rowsR sp rg, RowOk b sp bs r := (fx_sure N f O x).2
  have rw1 : ∀ r ∈ rowsR sp rg, RwOk sp.length r := fun r hh => by
   have q := rok r hh
   exact ⟨q.1.inn, q.1.one, q.1.few, q.2.2.1, q.2.2.2⟩
  have e1 := rows_in hb O.len hin _ rok
  have e2 := sum_sgR (y := layT b (potT b π m.toNat) sp) (n := sp.length) (rowsR sp rg) fun r hh s hs => ((rw1 r hh).inn s hs).1
  unfold worthM
  rw [sumN_range, ← e1, ← e2, wait_sum, ← sumN_add]
  refine sumN_same _ fun k hk => ?_
  unfold termW
  have eo := owK_sg hk rw1
  have hl := hin k (by rw [O.len]; exact hk)
  have ew : wOf sp k = (sAt sp k).w := by unfold wOf; rw [sAt_of hk]
  have keyo : owK sp (rowsR sp rg) k * (if owK sp (rowsR sp rg) k < 0 then (bs.getD k (0, 0)).2 else (bs.getD k (0, 0)).1) = owK sp (rowsR sp rg) k * layT b (potT b π m.toNat) sp k := by
   by_cases c : k ∈ tk
   ·have fx := x.fix k c
    have e : layT b (potT b π m.toNat) sp k = (bs.getD k (0, 0)).1 := by omega
    rw [e]
    split
    ·rw [← fx]
    ·rfl
   ·have z : owK sp (rowsR sp rg) k = 0 := by
     obtain ⟨r, hr⟩ := f.all k hk c
     rw [eo, ew, sgR_own c rg f.rk f.one (List.mem_map.mpr ⟨_, hr, rfl⟩), Int.sub_self]
    rw [z, Int.zero_mul, Int.zero_mul]
  have ex : owK sp (rowsR sp rg) k * layT b (potT b π m.toNat) sp k = wOf sp k * layT b (potT b π m.toNat) sp k - sgR k (rowsR sp rg) * layT b (potT b π m.toNat) sp k := by rw [eo, Int.sub_mul]
  omega
theorem full_worth {b m : Int} {sp : List Sn} {tk : List Nat} {rg : List (Nat × List Stp)} (N : NetT b m sp) (f : FF m sp tk rg) : ∀ (t : Tq) (bs : List (Int × Int)), FullT b sp tk rg t bs → OB sp tk bs → ∀ p ∈ lvs t bs, ∀ lf, p.2 = leafP lf → ∀ rows, lf = .price rows →
  ∃ ts ∈ allT b.toNat m.toNat, ts.getD 0 0 = 0 ∧ fitsM b ts sp = true ∧ waitOfM b ts sp = worthM b sp p.1 (rowsR sp rg) ∧ leafP (.price rows) = leafP (.price (rowsR sp rg))
 | .leaf d, bs, h, O, p, hp, lf, el, rows, er => by
  rw [List.mem_singleton.mp hp] at el ⊢
  have el : d = leafP lf := el
  rw [er] at el
  rcases h with ⟨q, hq, rfl, hd⟩ | ⟨rfl, x⟩
  ·injection el with el
   injection el with e1 e2
   exact absurd e1 (by intro z; injection z with z; exact absurd z (by decide))
  ·obtain ⟨ts, h1, h2, h3, h4⟩ := tight N f O x
   exact ⟨ts, h1, h2, h3, h4, el.symm⟩
 | .cut k a t1 t2, bs, h, O, p, hp, lf, el, rows, er => by
  obtain ⟨h1, h2, h3, h4, h5⟩ := h
  have hn := f.acy.nodup.2 k h1
  rcases List.mem_append.mp hp with z | z
  ·exact full_worth N f t1 _ h4 (O.one h1 hn h2 h3) p z lf el rows er
  ·exact full_worth N f t2 _ h5 (O.other h1 hn h2 h3) p z lf el rows er
end HN
namespace HN
open PySem L2 PyProof.Rows
def DW (H : Hp) : List (Key × V) → List (Int × List Stp) → Prop := Paired fun (p : Key × V) (q : Int × List Stp) => p.1 = .inl q.1 ∧ IsD H p.2 (wayP q.2)
theorem DW.none {H : Hp} {x : Int} : ∀ {kvs : List (Key × V)} {l : List (Int × List Stp)}, DW H kvs l → lkW l x = none → valV kvs (.inl x) = none
 | _, _, .nil, _ => rfl
 | _, _, .cons (b := q) r t, h => by
  rw [lkW_cons] at h
  by_cases e : q.1 = x
  ·rw [if_pos e] at h; cases h
  ·rw [if_neg e] at h
   rw [valV_neg (fun z => e (Sum.inl.inj (r.1.symm.trans z)))]
   exact DW.none t h
theorem DW.some {H : Hp} {x : Int} {ws : List Stp} : ∀ {kvs : List (Key × V)} {l : List (Int × List Stp)}, DW H kvs l → lkW l x = some ws → ∃ v, valV kvs (.inl x) = some v ∧ IsD H v (wayP ws)
 | _, _, .nil, h => by cases h
 | _, _, .cons (b := q) r t, h => by
  rw [lkW_cons] at h
  by_cases e : q.1 = x
  ·rw [if_pos e] at h
   cases h
   exact ⟨_, valV_pos (by rw [r.1, e]), r.2⟩
  ·rw [if_neg e] at h
   rw [valV_neg (fun z => e (Sum.inl.inj (r.1.symm.trans z)))]
   exact DW.some t h
theorem wayP_keepW {H H' : Hp} {v : V} {ws : List Stp} (e : TupK H H') (h : IsD H v (wayP ws)) : IsD H' v (wayP ws) := by
 obtain ⟨p, ys, rfl, hp, _, r⟩ := rows_of h
 exact .tup (e _ _ hp) (rows_keep e r)
theorem DW.keep {H H' : Hp} (e : TupK H H') {kvs : List (Key × V)} {l : List (Int × List Stp)} (h : DW H kvs l) : DW H' kvs l := L2.Paired.mapP h fun _ _ z => ⟨z.1, wayP_keepW e z.2⟩
theorem DW.len {H : Hp} : ∀ {kvs : List (Key × V)} {l : List (Int × List Stp)}, DW H kvs l → kvs.length = l.length
 | _, _, .nil => rfl
 | _, _, .cons _ t => congrArg (· + 1) (DW.len t)
theorem DW.snoc {H : Hp} {p : Key × V} {q : Int × List Stp} (h : p.1 = .inl q.1 ∧ IsD H p.2 (wayP q.2)) : ∀ {kvs : List (Key × V)} {l : List (Int × List Stp)}, DW H kvs l → DW H (kvs ++ [p]) (l ++ [q])
 | _, _, .nil => .cons h .nil
 | _, _, .cons r t => .cons r (DW.snoc h t)
structure JW (H Hc : Hp) (Da La : Addr) (c : List (Int × List Stp) × List Int) : Prop where
 same : Same H Hc
 da : ∃ kvs, Hc Da = some (.dK kvs) ∧ DW Hc kvs c.1
 la : Hc La = some (.lst (c.2.map V.int))
theorem JW.on {H Hc Hc' : Hp} {Da La : Addr} {c : List (Int × List Stp) × List Int} (j : JW H Hc Da La c) (e : Same Hc Hc') : JW H Hc' Da La c := by
 obtain ⟨kvs, h1, h2⟩ := j.da
 exact ⟨j.same.trans e, ⟨kvs, e _ _ h1, h2.keep (Same.tupK e)⟩, e _ _ j.la⟩
theorem JW.upL {H Hc : Hp} {Da La : Addr} {c : List (Int × List Stp) × List Int} {td : List Int} (j : JW H Hc Da La c) (hL : H La = none) (n : Da ≠ La) : JW H (upd Hc La (.lst (td.map V.int))) Da La (c.1, td) := by
 obtain ⟨kvs, h1, h2⟩ := j.da
 exact ⟨fun a o e => by rw [upd_ne (ne_of_none e hL)]; exact j.same a o e, ⟨kvs, by rw [upd_ne n]; exact h1, h2.keep (tupK_upd j.la)⟩, upd_same⟩
theorem mapI_at {l : List Nat} {i : Nat} {x : V} (h : (l.map fun (i : Nat) => V.int i)[i]? = some x) : ∃ j, l[i]? = some j ∧ x = V.int (j : Nat) := by
 rw [List.getElem?_map] at h
 obtain ⟨j, hj, rfl⟩ := Option.map_eq_some_iff.mp h
 exact ⟨j, hj, rfl⟩
theorem JW.upD {H Hc : Hp} {Da La : Addr} {c : List (Int × List Stp) × List Int} {kvs : List (Key × V)} {y : Int} {w : V} {ws : List Stp} (j : JW H Hc Da La c) (hD : H Da = none) (n : Da ≠ La) (hk : Hc Da = some (.dK kvs)) (hd : DW Hc kvs c.1) (hn : lkW c.1 y = none) (hw : IsD Hc w (wayP ws)) : JW H (upd Hc Da (.dK (putK kvs (.inl y) w))) Da La (c.1 ++ [(y, ws)], c.2) := by
 have K : TupK Hc (upd Hc Da (.dK (putK kvs (.inl y) w))) := fun q xs h => by rw [upd_ne (ne_of h hk (by intro z; cases z))]; exact h
 refine ⟨fun a o e => by rw [upd_ne (ne_of_none e hD)]; exact j.same a o e, ⟨_, upd_same, ?_⟩, by rw [upd_ne n.symm]; exact j.la⟩
 have e := putK_new w (hd.none hn)
 have z : DW (upd Hc Da (.dK (putK kvs (.inl y) w))) (kvs ++ [(.inl y, w)]) (c.1 ++ [(y, ws)]) := DW.snoc (p := (.inl y, w)) (q := (y, ws)) ⟨rfl, wayP_keepW K hw⟩ (hd.keep K)
 rw [← e] at z
 exact z
def spMet : Sp := fun vs H Q _ => ∃ (v : V) (u : Addr) (b m be : Int) (sp : List Sn) (tk : List Nat), vs = [v, .ref u, .int be] ∧ IsD H v (netP b m sp) ∧ NetT b m sp ∧ H u = some (.lst (tk.map fun (i : Nat) => V.int i)) ∧ (∀ i ∈ tk, i < sp.length) ∧ tk.length ≤ 40 ∧ 0 ≤ be ∧ be < m ∧
 ∀ Da kvs c H', Same H H' → H' Da = some (.dK kvs) → DW H' kvs c → WI m.toNat sp tk be (c, []) → Clo sp tk (fun _ => False) (c, []) → Q (.ref Da) H'
end HN
namespace HN
open PySem L2 PyProof.Rows
def wB (bs : List (Int × Int)) (k : Nat) : Int := (bs.getD k (0, 0)).2 - (bs.getD k (0, 0)).1
def sumB (bs : List (Int × Int)) : List Nat → Nat
 | [] => 0
 | k :: tk => (wB bs k).toNat + sumB bs tk
def prodB (bs : List (Int × Int)) : List Nat → Nat
 | [] => 1
 | k :: tk => (wB bs k + 1).toNat * prodB bs tk
theorem wB_set {bs : List (Int × Int)} {k j : Nat} {x : Int × Int} (h : k ≠ j) : wB (bs.set k x) j = wB bs j := by
 unfold wB
 have e : (bs.set k x).getD j (0, 0) = bs.getD j (0, 0) := by
  rw [List.getD_eq_getElem?_getD, List.getElem?_set_ne h, ← List.getD_eq_getElem?_getD]
 rw [e]
theorem sumB_set {bs : List (Int × Int)} {k : Nat} {x : Int × Int} : ∀ (tk : List Nat), k ∉ tk → sumB (bs.set k x) tk = sumB bs tk ∧ prodB (bs.set k x) tk = prodB bs tk
 | [], _ => ⟨rfl, rfl⟩
 | j :: tk, h => by
  obtain ⟨i1, i2⟩ := sumB_set (bs := bs) (x := x) tk fun z => h (List.mem_cons_of_mem _ z)
  have e : wB (bs.set k x) j = wB bs j := wB_set fun z => h (by rw [z]; simp)
  show (wB (bs.set k x) j).toNat + sumB _ tk = _ ∧ (wB (bs.set k x) j + 1).toNat * prodB _ tk = _
  rw [e, i1, i2]; exact ⟨rfl, rfl⟩
theorem cut_sizes {bs : List (Int × Int)} {k : Nat} {a : Int} (hk : k < bs.length) (h1 : (bs.getD k (0, 0)).1 ≤ a) (h2 : a < (bs.getD k (0, 0)).2) : ∀ (tk : List Nat), tk.Nodup → k ∈ tk →
  sumB (oneB bs k a) tk < sumB bs tk ∧ sumB (otherB bs k a) tk < sumB bs tk ∧ prodB (oneB bs k a) tk + prodB (otherB bs k a) tk = prodB bs tk
 | [], _, h => absurd h (by simp)
 | j :: tk, nd, hm => by
  rw [List.nodup_cons] at nd
  by_cases e : k = j
  ·subst e
   obtain ⟨a1, a2⟩ := sumB_set (bs := bs) (k := k) (x := ((bs.getD k (0, 0)).1, a)) tk nd.1
   obtain ⟨b1, b2⟩ := sumB_set (bs := bs) (k := k) (x := (a + 1, (bs.getD k (0, 0)).2)) tk nd.1
   have w1 : wB (oneB bs k a) k = a - (bs.getD k (0, 0)).1 := by unfold wB oneB; rw [getD_set hk, if_pos rfl]
   have w2 : wB (otherB bs k a) k = (bs.getD k (0, 0)).2 - (a + 1) := by unfold wB otherB; rw [getD_set hk, if_pos rfl]
   have w0 : wB bs k = (bs.getD k (0, 0)).2 - (bs.getD k (0, 0)).1 := rfl
   show (wB (oneB bs k a) k).toNat + sumB (oneB bs k a) tk < _ ∧ (wB (otherB bs k a) k).toNat + sumB (otherB bs k a) tk < _ ∧ (wB (oneB bs k a) k + 1).toNat * prodB (oneB bs k a) tk + (wB (otherB bs k a) k + 1).toNat * prodB (otherB bs k a) tk = (wB bs k + 1).toNat * prodB bs tk
   rw [show sumB (oneB bs k a) tk = sumB bs tk from a1, show prodB (oneB bs k a) tk = prodB bs tk from a2, show sumB (otherB bs k a) tk = sumB bs tk from b1, show prodB (otherB bs k a) tk = prodB bs tk from b2, w1, w2, ← Nat.add_mul]
   show _ < (wB bs k).toNat + sumB bs tk ∧ _ < (wB bs k).toNat + sumB bs tk ∧ _
   rw [w0]
   refine ⟨by omega, by omega, ?_⟩
   congr 1
   omega
  ·obtain ⟨i1, i2, i3⟩ := cut_sizes hk h1 h2 tk nd.2 ((List.mem_cons.mp hm).resolve_left e)
   have w1 : wB (oneB bs k a) j = wB bs j := wB_set e
   have w2 : wB (otherB bs k a) j = wB bs j := wB_set e
   show (wB (oneB bs k a) j).toNat + _ < (wB bs j).toNat + _ ∧ (wB (otherB bs k a) j).toNat + _ < (wB bs j).toNat + _ ∧ (wB (oneB bs k a) j + 1).toNat * _ + (wB (otherB bs k a) j + 1).toNat * _ = (wB bs j + 1).toNat * _
   rw [w1, w2, ← Nat.mul_add, i3]
   exact ⟨by omega, by omega, rfl⟩
theorem prodB_pos {bs : List (Int × Int)} : ∀ (tk : List Nat), (∀ k ∈ tk, 0 ≤ wB bs k) → 1 ≤ prodB bs tk
 | [], _ => Nat.le_refl _
 | j :: tk, h => by
  have := prodB_pos tk fun k hk => h k (List.mem_cons_of_mem _ hk)
  have h0 := h j (by simp)
  show 1 ≤ (wB bs j + 1).toNat * prodB bs tk
  exact Nat.mul_le_mul (by omega : 1 ≤ (wB bs j + 1).toNat) this
theorem sizes_le {bs : List (Int × Int)} : ∀ (tk : List Nat), (∀ k ∈ tk, wB bs k ≤ 5) → sumB bs tk ≤ 5 * tk.length ∧ prodB bs tk ≤ 6 ^ tk.length
 | [], _ => ⟨Nat.le_refl _, Nat.le_refl _⟩
 | j :: tk, h => by
  obtain ⟨i1, i2⟩ := sizes_le tk fun k hk => h k (List.mem_cons_of_mem _ hk)
  have h0 := h j (by simp)
  rw [List.length_cons, Nat.pow_succ, Nat.mul_comm (6 ^ tk.length) 6]
  exact ⟨by show (wB bs j).toNat + sumB bs tk ≤ _; omega, Nat.mul_le_mul (by omega : (wB bs j + 1).toNat ≤ 6) i2⟩
theorem inV_intsF (x : Int) : ∀ p : List Int, inV (.int x) (p.map V.int) = decide (x ∈ p)
 | [] => by simp [inV]
 | y :: p => by
  have ih := inV_intsF x p
  unfold inV at ih ⊢
  rw [List.map_cons, List.any_cons, ih]
  by_cases e : y = x
  ·subst e; simp [eqV]
  ·have : eqV (.int y) (.int x) = false := by simp [eqV, e]
   rw [this]
   simp [List.mem_cons, Ne.symm e]
theorem inV_nat (x : Nat) (l : List Nat) : inV (.int (x : Int)) (l.map fun (i : Nat) => V.int i) = decide (x ∈ l) := by
 have e : (l.map fun (i : Nat) => V.int i) = (l.map fun (i : Nat) => (i : Int)).map V.int := by rw [List.map_map]; rfl
 rw [e, inV_intsF]
 refine decide_eq_decide.mpr ⟨fun h => ?_, fun h => List.mem_map.mpr ⟨x, h, rfl⟩⟩
 obtain ⟨j, hj, e⟩ := List.mem_map.mp h
 have : j = x := by omega
 rw [← this]; exact hj
def spForN : Sp := fun vs H Q _ => ∃ (v : V) (b m : Int) (sp : List Sn), vs = [v] ∧ IsD H v (netP b m sp) ∧ NetT b m sp ∧
 ∀ L tk gs H', Same H H' → H' L = some (.lst (tk.map fun (i : Nat) => V.int i)) → Gd m.toNat sp gs tk → (∀ i, i < sp.length → tm gs (sAt sp i).s = tm gs (sAt sp i).g) → Q (.ref L) H'
def restK (sp : List Sn) (tk : List Nat) : List Nat := (List.range sp.length).filter fun k => !(decide (k ∈ tk))
def spRingsL : Sp := fun vs H Q _ => ∃ (v : V) (u : Addr) (b m : Int) (sp : List Sn) (tk : List Nat) (gs : List Int), vs = [v, .ref u] ∧ IsD H v (netP b m sp) ∧ NetT b m sp ∧ H u = some (.lst (tk.map fun (i : Nat) => V.int i)) ∧ Gd m.toNat sp gs tk ∧ (∀ i, i < sp.length → tm gs (sAt sp i).s = tm gs (sAt sp i).g) ∧
 ∀ (L : Addr) (rl : List V) (rg : List (Nat × List Stp)) (H' : Hp), Same H H' → H' L = some (.lst rl) → IsDs H' rl (rg.map fun (q : Nat × List Stp) => wayP q.2) → (∀ q ∈ rg, RK sp tk q) → rg.map (·.1) = restK sp tk → Q (.ref L) H'
structure FlArgs (H : Hp) (v vb : V) (u1 u2 : Addr) (b m : Int) (sp : List Sn) (tk : List Nat) (rg : List (Nat × List Stp)) (rl : List V) (bs : List (Int × Int)) : Prop where
 net : IsD H v (netP b m sp)
 N : NetT b m sp
 bnd : IsD H vb (bndP bs)
 ob : OB sp tk bs
 ff : FF m sp tk rg
 h1 : H u1 = some (.lst (tk.map fun (i : Nat) => V.int i))
 h2 : H u2 = some (.lst rl)
 rs : IsDs H rl (rg.map fun q => wayP q.2)
theorem FlArgs.same {H H' : Hp} {v vb : V} {u1 u2 : Addr} {b m : Int} {sp : List Sn} {tk : List Nat} {rg : List (Nat × List Stp)} {rl : List V} {bs : List (Int × Int)} (a : FlArgs H v vb u1 u2 b m sp tk rg rl bs) (e : Same H H') : FlArgs H' v vb u1 u2 b m sp tk rg rl bs :=
 ⟨a.net.same e, a.N, a.bnd.same e, a.ob, a.ff, e _ _ a.h1, e _ _ a.h2, a.rs.same e⟩
def spFull (dd : Nat) : Sp := fun vs H Q _ => ∃ (v vb : V) (u1 u2 : Addr) (b m : Int) (sp : List Sn) (tk : List Nat) (rg : List (Nat × List Stp)) (rl : List V) (bs : List (Int × Int)), vs = [v, vb, .ref u1, .ref u2] ∧ sumB bs tk < dd ∧ FlArgs H v vb u1 u2 b m sp tk rg rl bs ∧
 ∀ u t H', Same H H' → IsD H' u (treeD t) → FullT b sp tk rg t bs → dpT t ≤ sumB bs tk → siz t + 1 ≤ 2 * prodB bs tk → Q u H'
def spShown6 : Sp := fun vs H Q _ => ∃ (v u : V) (b m : Int) (sp : List Sn) (t : Tq) (ps : List Plc), vs = [v, u] ∧ (IsD H v (netP b m sp) ∧ IsD H u (treeD t) ∧ 0 < b ∧ b < 10 ^ 61 ∧ sp.length ≤ 40 ∧ (∀ x ∈ sp, 0 ≤ x.w ∧ x.w ≤ 1000000000000) ∧ siz t ≤ 1000 ∧ lvs t (sp.map fun x => (x.l, x.o)) = ps.map plcL ∧ ∀ p ∈ ps, PlOk sp.length p) ∧ CutsOk t (sp.map fun x => (x.l, x.o)) ∧ ((lvs t (sp.map fun x => (x.l, x.o))).all fun p => leafB sp p.2) = true ∧
 ∀ r H', Same H H' → ShAns b sp ps r H' → Q r H'
theorem ff_of {b m : Int} {sp : List Sn} {tk : List Nat} {gs : List Int} {rg : List (Nat × List Stp)} (N : NetT b m sp) (g : Gd m.toNat sp gs tk) (h1 : ∀ q ∈ rg, RK sp tk q) (h2 : rg.map (·.1) = restK sp tk) : FF m sp tk rg := by
 have m1 := N.m1
 refine ⟨g.acy, by have := g.few (by omega); omega, h1, fun k hk hn => ?_, ?_⟩
 ·have : k ∈ rg.map (·.1) := by
   rw [h2]
   exact List.mem_filter.mpr ⟨List.mem_range.mpr hk, by rw [decide_eq_false hn]; rfl⟩
  obtain ⟨q, hq, rfl⟩ := List.mem_map.mp this
  exact ⟨q.2, hq⟩
 ·rw [h2]
  exact List.nodup_range.filter _
end HN
namespace HN
open PySem L2 PyProof.Rows
theorem allT_pos {b : Nat} (hb : 0 < b) : ∀ n, 0 < (allT b n).length
 | 0 => by show 0 < 1; decide
 | n + 1 => by
  show 0 < (longer b (allT b n)).length
  rw [longer_len]
  exact Nat.mul_pos hb (allT_pos hb n)
theorem way_inj : ∀ {p q : List Stp}, p.map (fun s => Dt.tup ((Stp.row s).map Dt.int)) = q.map (fun s => Dt.tup ((Stp.row s).map Dt.int)) → p = q
 | [], [], _ => rfl
 | [], _ :: _, h => by cases h
 | _ :: _, [], h => by cases h
 | s :: p, t :: q, h => by
  rw [List.map_cons, List.map_cons] at h
  injection h with h1 h2
  injection h1 with h1
  injection h1 with a1 a2
  injection a2 with a2 a3
  injection a1 with a1
  injection a2 with a2
  obtain ⟨i, d⟩ := s
  obtain ⟨j, e⟩ := t
  have a1 : (i : Int) = (j : Int) := a1
  have a2 : d = e := a2
  have a1 : i = j := by omega
  rw [a1, a2, way_inj h2]
theorem rows_inj : ∀ {r s : List (Int × List Stp)}, r.map rowD = s.map rowD → r = s
 | [], [], _ => rfl
 | [], _ :: _, h => by cases h
 | _ :: _, [], h => by cases h
 | x :: r, y :: s, h => by
  rw [List.map_cons, List.map_cons] at h
  injection h with h1 h2
  injection h1 with h1
  injection h1 with a1 a2
  injection a2 with a2 a3
  injection a1 with a1
  injection a2 with a2
  obtain ⟨i, p⟩ := x
  obtain ⟨j, q⟩ := y
  have a1 : i = j := a1
  rw [a1, show p = q from way_inj a2, rows_inj h2]
theorem price_inj {r s : List (Int × List Stp)} (h : leafP (.price r) = leafP (.price s)) : r = s := by
 injection h with h
 injection h with _ h
 injection h with h _
 injection h with h
 exact rows_inj h
end HN
namespace HN
open PySem L2 PyProof.Rows
def top (i : Nat) : Stmt := PySem.Challenge.pw_hourtable_k36_whole_trees_to_the_end.main.body.getD i (.Pass ⟨0, 0, 0, 0⟩)
end HN
namespace HN
open PySem L2 PyProof.Rows
abbrev sBeatsL : Stmt := top 36
section
variable {P : Program} {w : World} {K : PySem.W.Frag} {mg : Str → Option Value} {base : Heap}
theorem scBeatsL : FnScope ["_law_net_here", "_law_bounds_here", "_law_ring", "_law_low", "_law_high", "_law_span_here", "_law_way"] ["_law_net_here", "_law_bounds_here", "_law_ring"] (defScope sBeatsL) := ⟨rfl, rfl, rfl, by decide +kernel, rfl, by decide +kernel, by decide +kernel⟩
theorem ok_beatsL {f : Addr} {fd : FuncData} (F : Fun K "_law_beats" "_law_beats" sBeatsL f fd) : FnOk P w K mg base CX0 1 f fd ["_law_net_here", "_law_bounds_here", "_law_ring"] spBeats := by
 refine F.ok scBeatsL (fun vs H Q E h => by obtain ⟨vn, vb, vw, b, m, sp, bs, ws, rfl, _⟩ := h; rfl) (fun cdv A outer s H vs Q E hr h => ?_)
 obtain ⟨vn, vb, vw, b, m, sp, bs, ws, rfl, hv, hb0, hb1, hb, hw, hin, k⟩ := h
 obtain ⟨t, pn, ys, rfl, ht, _⟩ := netP_of hv
 obtain ⟨pb, yb, rfl, hpb, hlb, rb⟩ := rows_of hb
 obtain ⟨pw, yw, rfl, hpw, hlw, rw'⟩ := rows_of hw
 refine ⟨_, PSl.h (l_cons ⟨(ps_set (i := 3) scBeatsL.nd rfl (Or.inl rfl) pe_int)⟩
  (l_cons ⟨(ps_set (i := 4) scBeatsL.nd rfl (Or.inl rfl) pe_int)⟩
  (l_cons ⟨(ps_for PassesOwn.never rfl (pi_tup (pv 2)) (pg_tup rfl (pgs_cons (pg_name (i := 5) scBeatsL.nd rfl (Or.inl rfl)) (pgs_cons (pg_name (i := 6) scBeatsL.nd rfl (Or.inl rfl)) pgs_nil))) (pss_one (ps_if (pt_cmpR op_eq (pv 6) pe_int (nomark _)) (PSl.h (l_cons ⟨(ps_set (i := 3) scBeatsL.nd rfl (Or.inl rfl) (pe_op op_add (pv 3) (pe_ix ix_tup (pe_ix ix_tup (pv 1) (pv 5) (fun _ _ => rfl)) pe_int (fun _ _ => rfl))))⟩
  (l_one ⟨(ps_set (i := 4) scBeatsL.nd rfl (Or.inl rfl) (pe_op op_add (pv 4) (pe_ix ix_tup (pe_ix ix_tup (pv 1) (pv 5) (fun _ _ => rfl)) pe_int (fun _ _ => rfl))))⟩))) (PSl.h (l_cons ⟨(ps_set (i := 3) scBeatsL.nd rfl (Or.inl rfl) (pe_op op_sub (pv 3) (pe_ix ix_tup (pe_ix ix_tup (pv 1) (pv 5) (fun _ _ => rfl)) pe_int (fun _ _ => rfl))))⟩
  (l_one ⟨(ps_set (i := 4) scBeatsL.nd rfl (Or.inl rfl) (pe_op op_sub (pv 4) (pe_ix ix_tup (pe_ix ix_tup (pv 1) (pv 5) (fun _ _ => rfl)) pe_int (fun _ _ => rfl))))⟩))))))⟩
  (l_one ⟨(ps_ret (pe_tupA (pa_cons (pe_op op_sub pe_int (pe_op op_fdivB (pe_op op_sub pe_int (pv 3)) (pe_ix ix_tup (pv 0) pe_int (fun _ _ => rfl)))) (pa_cons (pe_op op_fdivB (pv 4) (pe_ix ix_tup (pv 0) pe_int (fun _ _ => rfl))) pa_nil))))⟩)))), ?_⟩
 refine ⟨_, rfl, pw, rfl, ⟨_, SqT.of hpw⟩, ?_⟩
 refine for_tup (K := K) (xs := yw) (fun i σ H2 => H2 = H ∧ ∃ v4 v5, σ = [some (.ref t), some (.ref pb), some (.ref pw), some (.int (sumLo bs (ws.take i))), some (.int (sumHi bs (ws.take i))), v4, v5]) ⟨rfl, none, none, rfl⟩ (fun i σ H2 _ ⟨e1, _⟩ => by rw [e1]; exact SqT.of hpw) ?_ ?_
 ·rintro i y σ H2 hy ⟨rfl, v4, v5, rfl⟩
  have hi : i < ws.length := by rw [← hlw]; exact (List.getElem?_eq_some_iff.mp hy).1
  obtain ⟨q, hq, hq2⟩ := rows_at rw' (gE hi)
  rw [hy] at hq
  cases hq
  obtain ⟨i1, d1⟩ := hin ws[i] (List.getElem_mem hi)
  have hm1 : sumLo bs (ws.take (i + 1)) = sumLo bs (ws.take i) + lowS bs ws[i] := by
   unfold sumLo
   rw [List.take_add_one, gE hi, List.map_append, List.sum_append]; simp
  have hm2 : sumHi bs (ws.take (i + 1)) = sumHi bs (ws.take i) + highS bs ws[i] := by
   unfold sumHi
   rw [List.take_add_one, gE hi, List.map_append, List.sum_append]; simp
  obtain ⟨qb, hqb, hqb2⟩ := rows_at rb (gE i1)
  refine ⟨q, _, rfl, SqT.of hq2, rfl, _, _, rfl, _, _, rfl, rfl, ?_⟩
  refine ⟨_, rfl, rfl, _, rfl, ?_⟩
  refine ite2 (fun h1 => ?_) (fun h1 => ?_)
  ·have h1 : ws[i].d = 1 := by have := of_decide_eq_true h1; injection this
   refine ⟨_, rfl, _, rfl, _, rfl, pb, _, _, _, rfl, rfl, SqT.of hpb, atI_nat (j := ws[i].i) hqb, qb, _, _, _, rfl, rfl, SqT.of hqb2, atI_nat (j := 0) rfl, _, _, rfl, rfl, ?_⟩
   refine ⟨_, rfl, _, rfl, _, rfl, pb, _, _, _, rfl, rfl, SqT.of hpb, atI_nat (j := ws[i].i) hqb, qb, _, _, _, rfl, rfl, SqT.of hqb2, atI_nat (j := 1) rfl, _, _, rfl, rfl, rfl, some (.int (ws[i].i : Nat)), some (.int ws[i].d), ?_⟩
   have l1 : lowS bs ws[i] = bs[ws[i].i].1 := by unfold lowS; rw [gE i1]; exact if_pos h1
   have l2 : highS bs ws[i] = bs[ws[i].i].2 := by unfold highS; rw [gE i1]; exact if_pos h1
   rw [hm1, hm2, l1, l2]; rfl
  ·have h1 : ws[i].d ≠ 1 := fun z => h1 (decide_eq_true (by rw [z]))
   refine ⟨_, rfl, _, rfl, _, rfl, pb, _, _, _, rfl, rfl, SqT.of hpb, atI_nat (j := ws[i].i) hqb, qb, _, _, _, rfl, rfl, SqT.of hqb2, atI_nat (j := 1) rfl, _, _, rfl, rfl, ?_⟩
   refine ⟨_, rfl, _, rfl, _, rfl, pb, _, _, _, rfl, rfl, SqT.of hpb, atI_nat (j := ws[i].i) hqb, qb, _, _, _, rfl, rfl, SqT.of hqb2, atI_nat (j := 0) rfl, _, _, rfl, rfl, rfl, some (.int (ws[i].i : Nat)), some (.int ws[i].d), ?_⟩
   have l1 : lowS bs ws[i] = -bs[ws[i].i].2 := by unfold lowS; rw [gE i1]; exact if_neg h1
   have l2 : highS bs ws[i] = -bs[ws[i].i].1 := by unfold highS; rw [gE i1]; exact if_neg h1
   rw [hm1, hm2, l1, l2, ← Int.sub_eq_add_neg, ← Int.sub_eq_add_neg]; rfl
 ·rintro σ H2 ⟨rfl, v4, v5, rfl⟩
  rw [hlw, List.take_length]
  refine ⟨_, rfl, _, _, rfl, rfl, _, rfl, t, _, _, _, rfl, rfl, SqT.of ht, atI_nat (j := 0) rfl, _, _, rfl, rfl, log_ok hb0 hb1, _, _, rfl, rfl, ?_⟩
  refine ⟨_, rfl, _, rfl, t, _, _, _, rfl, rfl, SqT.of ht, atI_nat (j := 0) rfl, _, _, rfl, rfl, log_ok hb0 hb1, (by show 2 ≤ sizeLine; decide), fun p3 H3 S3 h3 => k p3 H3 S3 ?_⟩
  have e : (0 : Int) - (0 - sumLo bs ws) / b = upB b (sumLo bs ws) := by unfold upB; rw [Int.zero_sub, Int.zero_sub]
  rw [← e]; exact h3
end
end HN
namespace HN
open PySem L2 PyProof.Rows
abbrev sNums : Stmt := top 31
theorem cut_upto {xs : List V} {i : Int} {n : Nat} (hi : i = (n : Int)) : cutV xs none (some i) = xs.take n := by
 unfold cutV
 subst hi
 have e := HT.sIx_nat xs.length xs.length n
 rw [e]
 show (xs.drop 0).take (min n xs.length - 0) = xs.take n
 rw [List.drop_zero, Nat.sub_zero]
 by_cases h : n ≤ xs.length
 ·rw [Nat.min_eq_left h]
 ·rw [Nat.min_eq_right (by omega), List.take_length, List.take_of_length_le (by omega)]
def spNums (K : PySem.W.Frag) : Sp := fun vs H Q _ => ∃ (a : Addr) (ns : List Int) (m : Int), vs = [.ref a, .int m] ∧ SqL K H a (ns.map V.int) ∧ 64 ≤ m ∧ m ≤ 900 ∧ ∀ p H1 H', Same H H1 → H1 p = none → Md p H1 H' → Q (.ref p) H'
section
variable {P : Program} {w : World} {K : PySem.W.Frag} {mg : Str → Option Value} {base : Heap}
theorem scNums : FnScope ["_law_script", "_law_most", "_law_deck", "_law_kind", "_law_last"] ["_law_script", "_law_most"] (defScope sNums) := ⟨rfl, rfl, rfl, by decide +kernel, rfl, by decide +kernel, by decide +kernel⟩
theorem ok_nums {f : Addr} {fd : FuncData} (F : Fun K "_law_numbers" "_law_numbers" sNums f fd) (T : Nm mg) (T2 : Nt mg) : FnOk P w K mg base CX0 1 f fd ["_law_script", "_law_most"] (spNums K) := by
 refine F.ok scNums (fun vs H Q E h => by obtain ⟨a, ns, m, rfl, _⟩ := h; rfl) (fun cdv A outer s H vs Q E hr h => ?_)
 obtain ⟨a, ns, m, rfl, ha, hm1, hm2, k⟩ := h
 refine ⟨_, PSl.h (l_cons ⟨(ps_set (i := 2) scNums.nd rfl (Or.inl rfl) (pe_callTy call_list_of rfl T2.tlist boot_list (pa_cons (pe_slice sl_listA (pv 0) po_none (po_some pe_int)) pa_nil)))⟩
  (l_cons ⟨(ps_set (i := 3) scNums.nd rfl (Or.inl rfl) pe_int)⟩
  (l_cons ⟨(ps_cutK (ps_if (pt_cmpR (op_neL0 hr.units0) (pv 2) (pe_lstA pa_nil) (nomark _)) (PSl.h (l_cons ⟨(ps_set (i := 3) scNums.nd rfl (Or.inl rfl) (pe_op op_mod (pe_ix ix_list (pv 2) pe_int (fun _ _ => rfl)) pe_int))⟩
  (l_one ⟨(ps_asg (pe_op op_fdiv (pe_ix ix_list (pv 2) pe_int (fun _ _ => rfl)) pe_int) (pg_sub (pv 2) pe_int set_list))⟩))) pss_nil))⟩
  (l_cons ⟨(ps_set (i := 4) scNums.nd rfl (Or.inl rfl) (pe_op op_add pe_int (pe_op op_mod (pe_callB (call_sum rfl) rfl T2.sum boot_sum (pa_cons (pv 2) pa_nil)) pe_int)))⟩
  (l_cons ⟨(ps_while PassesOwn.never (pt_cmpR op_lt (pe_callB call_len_seq rfl T.len PySem.boot_len (pa_cons (pv 2) pa_nil)) (pv 1) (nomark _)) (PSl.h (l_cons ⟨(ps_set (i := 4) scNums.nd rfl (Or.inl rfl) (pe_op op_mod (pe_op op_add (pe_op op_add (pe_op op_mul (pv 4) (pv 4)) (pe_op op_mul pe_int (pv 4))) (pe_callB call_len_seq rfl T.len PySem.boot_len (pa_cons (pv 2) pa_nil))) pe_int))⟩
  (l_cons ⟨(ps_set (i := 4) scNums.nd rfl (Or.inl rfl) (pe_op op_mod (pe_op op_add (pe_op op_add (pe_op op_mul (pv 4) (pv 4)) (pe_op op_mul pe_int (pv 4))) pe_int) pe_int))⟩
  (l_one ⟨(ps_expr (pe_bm PySem.F.plainAttrs_list PySem.F.slot_list_append PySem.F.type_list_append mt_append (pv 2) (pa_cons (pv 4) pa_nil)))⟩)))))⟩
  (l_one ⟨(ps_ret (pe_op op_cat (pe_lstA (pa_cons (pv 3) pa_nil)) (pe_backL (pv 2))))⟩)))))), ?_⟩
 refine ⟨_, rfl, _, rfl, a, _, rfl, ha, fun q1 H1 S1 h1 => ?_⟩
 have h1 : H1 q1 = some (.lst ((ns.take 63).map V.int)) := by
  rw [h1, cut_upto (i := 63) (n := 63) rfl, List.map_take]
 refine ⟨q1, _, rfl, .inl (SqL.of h1), fun p hp => ?_⟩
 have S2 : Same H (upd H1 p (.lst ((ns.take 63).map V.int))) := S1.trans (Same.put (Same.refl H1) hp)
 have h2 : (upd H1 p (.lst ((ns.take 63).map V.int))) p = some (.lst ((ns.take 63).map V.int)) := upd_same
 have E2 : ∀ b o, b ≠ p → H1 b = some o → (upd H1 p (.lst ((ns.take 63).map V.int))) b = some o := fun b o hb e => by rw [upd_ne hb]; exact e
 have l2 : (ns.take 63).length ≤ 63 := by rw [List.length_take]; omega
 generalize upd H1 p (.lst ((ns.take 63).map V.int)) = H2 at S2 h2 E2 ⊢
 generalize ns.take 63 = d2 at h2 l2
 refine ⟨fun σ' H' => ∃ (kd : Int) (ds : List Int), σ' = [some (.ref a), some (.int m), some (.ref p), some (.int kd), none] ∧ H' p = some (.lst (ds.map V.int)) ∧ ds.length ≤ 63 ∧ ∀ b o, b ≠ p → H1 b = some o → H' b = some o, ?_, ?_⟩
 rotate_left
 ·refine ⟨_, rfl, Nat.zero_le _, fun q3 H3 S3 h3 => ⟨p, q3, _, rfl, rfl, SqL.of (S3 _ _ h2), SqL.of h3, _, rfl, ?_⟩⟩
  have E3 : ∀ b o, b ≠ p → H1 b = some o → H3 b = some o := fun b o hb e => S3 _ _ (E2 b o hb e)
  refine ite2 (fun hc => ?_) (fun _ => ⟨0, d2, rfl, S3 _ _ h2, l2, E3⟩)
  cases d2 with
  | nil => exact absurd hc (by decide)
  | cons d ds =>
   refine ⟨_, rfl, p, _, _, _, rfl, rfl, SqL.of (S3 _ _ h2), atI_nat (j := 0) rfl, _, _, rfl, rfl, (by show (0 : Int) < 2; decide), ?_⟩
   refine ⟨_, rfl, p, _, _, _, rfl, rfl, SqL.of (S3 _ _ h2), atI_nat (j := 0) rfl, _, _, rfl, rfl, ⟨by decide, by decide⟩, _, rfl, p, _, _, 0, rfl, rfl, S3 _ _ h2, (by simp [ixN]), ?_⟩
   exact ⟨_, d / 2 :: ds, rfl, by rw [upd_same]; rfl, l2, fun b o hb e => by rw [upd_ne hb]; exact E3 b o hb e⟩
 rintro σ' H3 ⟨kd, ds, rfl, h3, l3, E3⟩
 clear h2 E2 S2 H2 l2 d2
 refine ⟨_, rfl, p, ds, rfl, SqL.of h3, _, _, rfl, rfl, (by show (0 : Int) < 2147483647; decide), _, _, rfl, rfl, ?_⟩
 have s0 := Int.emod_nonneg ds.sum (by decide : (2147483647 : Int) ≠ 0)
 have s1 := Int.emod_lt_of_pos ds.sum (by decide : (0 : Int) < 2147483647)
 refine ⟨fun n σ H' => ∃ (la : Int) (ds : List Int), n = 1000 - ds.length ∧ σ = [some (.ref a), some (.int m), some (.ref p), some (.int kd), some (.int la)] ∧ H' p = some (.lst (ds.map V.int)) ∧ ds.length ≤ 900 ∧ 0 ≤ la ∧ la < 4294967296 ∧ ∀ b o, b ≠ p → H1 b = some o → H' b = some o, ⟨_, _, ds, rfl, rfl, h3, by omega, by omega, by omega, E3⟩, ?_⟩
 rintro n σ H4 ⟨la, ds, rfl, rfl, h4, l4, a0, a1, E4⟩
 refine ⟨_, rfl, p, _, rfl, .inl (SqL.of h4), _, rfl, _, _, rfl, rfl, _, rfl, ?_⟩
 refine ite2 (fun hc => ?_) (fun hc => ?_)
 ·have hc : ((ds.map V.int).length : Int) < m := of_decide_eq_true hc
  rw [List.length_map] at hc
  refine ⟨_, fun σ' H' z => z, ?_⟩
  refine ⟨_, rfl, _, rfl, _, _, rfl, rfl, .inl ⟨by omega, by omega⟩, _, rfl, _, _, rfl, rfl, .inl ⟨by decide, by decide⟩, _, _, rfl, rfl, _, rfl, p, _, rfl, .inl (SqL.of h4), _, _, rfl, rfl, _, _, rfl, rfl, (by show (0 : Int) < 2147483647; decide), ?_⟩
  have t0 := Int.emod_nonneg (la * la + 48271 * la + ((ds.map V.int).length : Int)) (by decide : (2147483647 : Int) ≠ 0)
  have t1 := Int.emod_lt_of_pos (la * la + 48271 * la + ((ds.map V.int).length : Int)) (by decide : (0 : Int) < 2147483647)
  refine ⟨_, rfl, _, rfl, _, _, rfl, rfl, .inl ⟨by omega, by omega⟩, _, rfl, _, _, rfl, rfl, .inl ⟨by decide, by decide⟩, _, _, rfl, rfl, _, _, rfl, rfl, _, _, rfl, rfl, (by show (0 : Int) < 2147483629; decide), ?_⟩
  refine ⟨_, rfl, .inl ⟨rfl, _, SqL.of h4⟩, _, rfl, p, _, _, rfl, rfl, h4, (Nat.lt_of_lt_of_le (by rw [List.length_map]; omega : (ds.map V.int).length < 1000) (by decide : 1000 ≤ sizeLine)), ?_⟩
  refine ⟨1000 - (ds.length + 1), by omega, _, ds ++ [_], by rw [List.length_append]; rfl, rfl, by rw [upd_same, List.map_append]; rfl, by rw [List.length_append]; show ds.length + 1 ≤ 900; omega, Int.emod_nonneg _ (by decide), Int.lt_trans (Int.emod_lt_of_pos _ (by decide)) (by decide), fun b o hb e => by rw [upd_ne hb]; exact E4 b o hb e⟩
 ·refine ⟨_, rfl, (by show 1 ≤ sizeLine; decide), fun q5 H5 S5 h5 => ⟨_, rfl, p, _, rfl, S5 _ _ h4, fun q6 H6 S6 h6 => ⟨q5, q6, _, _, rfl, rfl, S6 _ _ h5, h6, ?_, fun pd hpd => ?_⟩⟩⟩
  ·rw [List.length_reverse, List.length_map]
   exact Nat.le_trans (by show 1 + ds.length ≤ 1000; omega) (by decide)
  ·have hpH : H p = none := by
    cases z : H p with
    | none => rfl
    | some o => rw [S1 p o z] at hp; cases hp
   refine k pd H6 _ (fun b o e => S6 _ _ (S5 _ _ (E4 b o (fun z => by rw [z, hpH] at e; cases e) (S1 b o e)))) hpd ⟨fun b o hb e => by rw [upd_ne hb]; exact e, kd, ds.reverse, ?_, by rw [List.length_reverse]; omega⟩
   rw [upd_same, List.map_cons, List.map_reverse]; rfl
end
end HN
namespace HN
open PySem L2 PyProof.Rows
abbrev sDrawD : Stmt := top 32
section
variable {P : Program} {w : World} {K : PySem.W.Frag} {mg : Str → Option Value} {base : Heap}
theorem scDrawD : FnScope ["_law_deck", "_law_most", "_law_number"] ["_law_deck", "_law_most"] (defScope sDrawD) := ⟨rfl, rfl, rfl, by decide +kernel, rfl, by decide +kernel, by decide +kernel⟩
theorem ok_drawD {f : Addr} {fd : FuncData} (F : Fun K "_law_draw" "_law_draw" sDrawD f fd) (T : Nm mg) : FnOk P w K mg base CX0 1 f fd ["_law_deck", "_law_most"] spDrawD := by
 refine F.ok scDrawD (fun vs H Q E h => by obtain ⟨p, m, rfl, _⟩ := h; rfl) (fun cdv A outer s H vs Q E hr h => ?_)
 obtain ⟨p, m, rfl, ⟨k0, ns, hp, hl⟩, h0, h1, k⟩ := h
 refine ⟨_, PSl.h (l_cons ⟨(ps_if (pt_cmpR op_eq (pe_callB call_len_seq rfl T.len PySem.boot_len (pa_cons (pv 0) pa_nil)) pe_int (nomark _)) (pss_one (ps_ret pe_int)) pss_nil)⟩
  (l_cons ⟨(ps_set (i := 2) scDrawD.nd rfl (Or.inl rfl) (pe_bm0 PySem.F.plainAttrs_list PySem.F.slot_list_pop PySem.F.type_list_pop mt_pop (pv 0)))⟩
  (l_cons ⟨(ps_cutK (ps_if (PW.pt (pw_and (pt_cmpR op_eq (pe_ix ix_list (pv 0) pe_int (fun _ _ => rfl)) pe_int (nomark _)) (pw_and1 (pt_cmpR op_ne (pe_op op_fdivB (pv 2) (pv 1)) pe_int (nomark _))))) (pss_one (ps_expr (pe_bm PySem.F.plainAttrs_list PySem.F.slot_list_append PySem.F.type_list_append mt_append (pv 0) (pa_cons (pe_op op_fdivB (pv 2) (pv 1)) pa_nil)))) pss_nil))⟩
  (l_one ⟨(ps_ret (pe_op op_mod (pv 2) (pv 1)))⟩)))), ?_⟩
 refine ⟨_, rfl, p, _, rfl, .inl (SqL.of hp), rfl, _, rfl, ?_⟩
 refine ite2 (fun _ => k 0 H (by omega) h0 (Md.refl ⟨k0, ns, hp, hl⟩)) (fun hc => ?_)
 have hne : ns ≠ [] := fun z => hc (by rw [z]; rfl)
 obtain ⟨n', n, rfl⟩ : ∃ n' n, ns = n' ++ [n] := ⟨ns.dropLast, ns.getLast hne, (List.dropLast_concat_getLast hne).symm⟩
 have hp0 : H p = some (.lst ((k0 :: n').map V.int ++ [V.int n])) := by rw [hp, ← List.cons_append, List.map_append]; rfl
 have hl' : n'.length + 1 ≤ 1000 := by rw [List.length_append] at hl; exact hl
 refine ⟨_, rfl, .inl ⟨rfl, _, SqL.of hp0⟩, p, _, V.int n, rfl, rfl, hp0, by rw [List.length_append, List.getElem?_append_right (by simp)]; simp, ?_⟩
 rw [List.dropLast_concat]
 have M1 : Md p H (upd H p (.lst ((k0 :: n').map V.int))) := ⟨fun b o hb e => by rw [upd_ne hb]; exact e, k0, n', upd_same, by omega⟩
 have hp1 : (upd H p (.lst ((k0 :: n').map V.int))) p = some (.lst ((k0 :: n').map V.int)) := upd_same
 generalize upd H p (.lst ((k0 :: n').map V.int)) = H1 at M1 hp1 ⊢
 refine ⟨fun σ' H' => σ' = [some (.ref p), some (.int m), some (.int n)] ∧ Md p H H', ?_, ?_⟩
 rotate_left
 ·refine ⟨_, rfl, p, _, _, _, rfl, rfl, SqL.of hp1, atI_nat (j := 0) rfl, rfl, _, rfl, ?_⟩
  refine ite2 (fun _ => ?_) (fun _ => iteC rfl ⟨rfl, M1⟩)
  refine ⟨_, rfl, _, rfl, _, _, rfl, rfl, log_ok h0 h1, rfl, _, rfl, ?_⟩
  refine ite2 (fun _ => ?_) (fun _ => ⟨rfl, M1⟩)
  refine ⟨_, rfl, .inl ⟨rfl, _, SqL.of hp1⟩, _, rfl, _, rfl, _, _, rfl, rfl, log_ok h0 h1, ?_⟩
  refine ⟨p, _, _, rfl, rfl, hp1, (Nat.lt_of_lt_of_le (by rw [List.length_map, List.length_cons]; omega : ((k0 :: n').map V.int).length < 2000) (by decide : 2000 ≤ sizeLine)), rfl, ?_⟩
  refine ⟨fun b o hb e => by rw [upd_ne hb]; exact M1.1 b o hb e, k0, n' ++ [n / m], ?_, by rw [List.length_append]; exact hl'⟩
  rw [upd_same, ← List.cons_append, List.map_append]; rfl
 rintro σ' H2 ⟨rfl, M2⟩
 exact ⟨_, rfl, _, rfl, _, _, rfl, rfl, h0, k _ _ (Int.emod_nonneg _ (by omega)) (Int.emod_lt_of_pos _ h0) M2⟩
end
end HN
namespace HN
open PySem L2 PyProof.Rows
abbrev sSpanD : Stmt := top 33
section
variable {P : Program} {w : World} {K : PySem.W.Frag} {mg : Str → Option Value} {base : Heap}
theorem scSpanD : FnScope ["_law_deck", "_law_beat", "_law_many", "_law_hidden", "_law_kept", "_law_start", "_law_goal", "_law_width", "_law_least", "_law_weight"] ["_law_deck", "_law_beat", "_law_many", "_law_hidden", "_law_kept"] (defScope sSpanD) := ⟨rfl, rfl, rfl, by decide +kernel, rfl, by decide +kernel, by decide +kernel⟩
theorem ok_spanD {f f1 : Addr} {fd fd1 : FuncData} (F : Fun K "_law_span" "_law_span" sSpanD f fd) (T : Nm mg) (G1 : Fn K mg "_law_draw" sDrawD ["_law_deck", "_law_most"] f1 fd1) : FnOk P w K mg base CX0 2 f fd ["_law_deck", "_law_beat", "_law_many", "_law_hidden", "_law_kept"] spSpanD := by
 have F1 : FnOk P w K mg base CX0 1 f1 fd1 ["_law_deck", "_law_most"] spDrawD := ok_drawD G1.F T
 refine F.ok scSpanD (fun vs H Q E h => by obtain ⟨p, h, b, m, hs, k, rfl, _⟩ := h; rfl) (fun cdv A outer s H vs Q E hr h => ?_)
 obtain ⟨p, h, b, m, hs, kp, rfl, hp, hb1, hb2, hm1, hm2, hh, hlh, k⟩ := h
 refine ⟨_, PSl.h (l_cons ⟨(ps_set (i := 5) scSpanD.nd rfl (Or.inl rfl) (pc1 G1 F1 hr (pa_cons (pv 0) (pa_cons (pv 2) pa_nil))))⟩
  (l_cons ⟨(ps_set (i := 6) scSpanD.nd rfl (Or.inl rfl) (pe_op op_mod (pe_op op_add (pe_op op_add (pv 5) pe_int) (pc1 G1 F1 hr (pa_cons (pv 0) (pa_cons (pe_op op_sub (pv 2) pe_int) pa_nil)))) (pv 2)))⟩
  (l_cons ⟨(ps_set (i := 7) scSpanD.nd rfl (Or.inl rfl) (pe_callB (call_min2 rfl) rfl T.min boot_min (pa_cons (pe_op op_sub (pv 1) pe_int) (pa_cons (PEs.h (k_ix ix_list (k_lstF (a_cons k_int (a_cons ⟨pc1 G1 F1 hr (pa_cons (pv 0) (pa_cons pe_int pa_nil))⟩ (a_cons ⟨pc1 G1 F1 hr (pa_cons (pv 0) (pa_cons (pv 1) pa_nil))⟩ (a_cons (k_op op_sub ⟨pv 1⟩ k_int) a_nil))))) ⟨pc1 G1 F1 hr (pa_cons (pv 0) (pa_cons pe_int pa_nil))⟩ (fun _ _ => rfl))) pa_nil))))⟩
  (l_cons ⟨(ps_set (i := 8) scSpanD.nd rfl (Or.inl rfl) (pc1 G1 F1 hr (pa_cons (pv 0) (pa_cons (pv 1) pa_nil))))⟩
  (l_cons ⟨(ps_cutK (ps_if (pt_val (pv 4)) (pss_one (ps_set (i := 8) scSpanD.nd rfl (Or.inl rfl) (pe_op op_mod (pe_op op_sub (pe_op op_sub (pe_ix ix_tup (pv 3) (pv 6) (fun _ _ => rfl)) (pe_ix ix_tup (pv 3) (pv 5) (fun _ _ => rfl))) (pc1 G1 F1 hr (pa_cons (pv 0) (pa_cons (pe_op op_add (pv 7) pe_int) pa_nil)))) (pv 1)))) pss_nil))⟩
  (l_cons ⟨(ps_set (i := 8) scSpanD.nd rfl (Or.inl rfl) (pe_op op_add (pv 8) (pe_op op_mul (pv 1) (PEs.h (k_ix ix_list (k_lstF (a_cons k_int (a_cons k_int (a_cons k_int (a_cons ⟨pc1 G1 F1 hr (pa_cons (pv 0) (pa_cons (pe_op op_pow pe_int pe_int) pa_nil))⟩ a_nil))))) ⟨pc1 G1 F1 hr (pa_cons (pv 0) (pa_cons pe_int pa_nil))⟩ (fun _ _ => rfl))))))⟩
  (l_cons ⟨(ps_set (i := 9) scSpanD.nd rfl (Or.inl rfl) (PEs.h (k_ix ix_list (k_lstF (a_cons k_int (a_cons k_int (a_cons ⟨pc1 G1 F1 hr (pa_cons (pv 0) (pa_cons pe_int pa_nil))⟩ (a_cons ⟨pc1 G1 F1 hr (pa_cons (pv 0) (pa_cons (pe_op op_add (pe_op op_pow pe_int pe_int) pe_int) pa_nil))⟩ a_nil))))) ⟨pc1 G1 F1 hr (pa_cons (pv 0) (pa_cons pe_int pa_nil))⟩ (fun _ _ => rfl))))⟩
  (l_one ⟨(ps_ret (pe_tupA (pa_cons (pv 5) (pa_cons (pv 6) (pa_cons (pv 8) (pa_cons (pe_op op_add (pv 8) (pv 7)) (pa_cons (pv 9) pa_nil)))))))⟩)))))))), ?_⟩
 refine ⟨_, rfl, _, rfl, p, m, rfl, hp, by omega, by omega, fun r1 H1 a1 c1 M1 => ?_⟩
 refine ⟨_, rfl, _, _, rfl, rfl, _, rfl, _, rfl, _, _, rfl, rfl, p, _, rfl, M1.2, by omega, by omega, fun r2 H2 a2 c2 M2 => ?_⟩
 have M2 := M1.trans M2
 refine ⟨_, _, rfl, rfl, _, rfl, _, _, rfl, rfl, (by show (0 : Int) < m; omega), ?_⟩
 obtain ⟨g0, g1, g2⟩ := goal_ok a1 c1 a2 c2
 refine ⟨_, rfl, _, _, rfl, rfl, ?_⟩
 refine ⟨_, rfl, p, 4, rfl, M2.2, by decide, by decide, fun r7 H7 a7 c7 M7 => ?_⟩
 have M7 := M2.trans M7
 refine ⟨_, rfl, _, rfl, p, b, rfl, M7.2, by omega, by omega, fun r8 H8 a8 c8 M8 => ?_⟩
 have M8 := M7.trans M8
 refine ⟨_, rfl, _, _, rfl, rfl, (by show 4 ≤ sizeLine; decide), fun q9 hq9 => ?_⟩
 have nq9 := M8.2.ne hq9
 have S9 : Same H8 (upd H8 q9 (.lst [.int 0, .int r7, .int r8, .int (b - 1)])) := Same.put (Same.refl H8) hq9
 have h9 : (upd H8 q9 (.lst [.int 0, .int r7, .int r8, .int (b - 1)])) q9 = some (.lst [.int 0, .int r7, .int r8, .int (b - 1)]) := upd_same
 have M9 := M8.then S9
 refine ⟨_, rfl, p, 4, rfl, M9.2, by decide, by decide, fun rA HA aA cA MA => ?_⟩
 have hA := MA.at h9 nq9
 have MA := M9.trans MA
 clear M9 S9 h9
 obtain ⟨vA, eA, mA⟩ := atI_in (xs := [V.int 0, V.int r7, V.int r8, V.int (b - 1)]) aA cA
 obtain ⟨w0, rfl, w00⟩ : ∃ i, vA = V.int i ∧ 0 ≤ i := by
  simp only [List.mem_cons, List.not_mem_nil, or_false] at mA
  rcases mA with rfl | rfl | rfl | rfl
  ·exact ⟨_, rfl, by decide⟩
  ·exact ⟨_, rfl, a7⟩
  ·exact ⟨_, rfl, a8⟩
  ·exact ⟨_, rfl, by omega⟩
 refine ⟨q9, _, _, _, rfl, rfl, SqL.of hA, eA, _, _, rfl, ?_⟩
 obtain ⟨wd, hwd, wd0, wd1⟩ : ∃ wd, wd = (if w0 < b - 1 then w0 else b - 1) ∧ 0 ≤ wd ∧ wd < b := ⟨_, rfl, by split <;> omega, by split <;> omega⟩
 refine ⟨_, rfl, _, rfl, p, b, rfl, MA.2, by omega, by omega, fun rB HB aB cB MB => ?_⟩
 have MB := MA.trans MB
 show ∃ _, _
 rw [show (V.int (if w0 < b - 1 then w0 else b - 1)) = V.int wd from congrArg V.int hwd.symm]
 refine ⟨fun σ' H' => Md p H H' ∧ ∃ l, 0 ≤ l ∧ l < b ∧ σ' = [some (.ref p), some (.int b), some (.int m), some (.ref h), some (.bl kp), some (.int r1), some (.int ((r1 + 1 + r2) % m)), some (.int wd), some (.int l), none], ?_, ?_⟩
 rotate_left
 ·refine ⟨_, rfl, _, rfl, ?_⟩
  refine ite2 (fun _ => ?_) (fun _ => ⟨MB, rB, aB, cB, rfl⟩)
  have hhB : HB h = some (.tup (hs.map V.int)) := Md.tupK hp MB _ _ hh
  obtain ⟨vg, eg, mg'⟩ := atI_in (xs := hs.map V.int) (r := (r1 + 1 + r2) % m) g0 (by rw [List.length_map]; omega)
  obtain ⟨ig, _, rfl⟩ := List.mem_map.mp mg'
  obtain ⟨vs, es, ms⟩ := atI_in (xs := hs.map V.int) (r := r1) a1 (by rw [List.length_map]; omega)
  obtain ⟨is, _, rfl⟩ := List.mem_map.mp ms
  refine ⟨_, rfl, _, rfl, h, _, _, _, rfl, rfl, SqT.of hhB, eg, _, rfl, _, rfl, h, _, _, _, rfl, rfl, SqT.of hhB, es, _, _, rfl, rfl, _, rfl, _, rfl, _, _, rfl, rfl, p, _, rfl, MB.2, by omega, by omega, fun rC HC aC cC MC => ⟨_, _, rfl, rfl, _, rfl, _, _, rfl, rfl, (by show (0 : Int) < b; omega), ?_⟩⟩
  exact ⟨MB.trans MC, _, Int.emod_nonneg _ (by omega), Int.emod_lt_of_pos _ (by omega), rfl⟩
 rintro σ' HC ⟨MC, l, l0, l1, rfl⟩
 refine ⟨_, rfl, _, rfl, _, rfl, _, _, rfl, rfl, ⟨by decide, by decide, by decide⟩, p, _, rfl, MC.2, by decide, by decide, fun rD HD aD cD MD => ⟨(by show 4 ≤ sizeLine; decide), fun qE hqE => ?_⟩⟩
 have MD := MC.trans MD
 have cD : rD < 10 ^ 9 := cD
 have nqE := MD.2.ne hqE
 have SE : Same HD (upd HD qE (.lst [.int 0, .int 0, .int 1, .int rD])) := Same.put (Same.refl HD) hqE
 have hE : (upd HD qE (.lst [.int 0, .int 0, .int 1, .int rD])) qE = some (.lst [.int 0, .int 0, .int 1, .int rD]) := upd_same
 have ME := MD.then SE
 refine ⟨_, rfl, p, 4, rfl, ME.2, by decide, by decide, fun rF HF aF cF MF => ?_⟩
 have hF := MF.at hE nqE
 have MF := ME.trans MF
 clear ME SE hE
 obtain ⟨vF, eF, mF⟩ := atI_in (xs := [V.int 0, V.int 0, V.int 1, V.int rD]) aF cF
 obtain ⟨n, rfl, n0, n1⟩ : ∃ i, vF = V.int i ∧ 0 ≤ i ∧ i ≤ 10 ^ 9 := by
  simp only [List.mem_cons, List.not_mem_nil, or_false] at mF
  rcases mF with rfl | rfl | rfl | rfl
  ·exact ⟨_, rfl, by decide, by decide⟩
  ·exact ⟨_, rfl, by decide, by decide⟩
  ·exact ⟨_, rfl, by decide, by decide⟩
  ·exact ⟨_, rfl, by omega, by omega⟩
 refine ⟨qE, _, _, _, rfl, rfl, SqL.of hF, eF, _, _, rfl, rfl, .inr ⟨by omega, by omega⟩, _, _, rfl, rfl, ?_⟩
 have bn0 : 0 ≤ b * n := Int.mul_nonneg (by omega) n0
 have bn1 : b * n ≤ 10 ^ 33 * 10 ^ 9 := Int.mul_le_mul hb2 n1 n0 (by decide)
 refine ⟨_, rfl, p, 10, rfl, MF.2, by decide, by decide, fun rH HH aH cH MH => ?_⟩
 have MH := MF.trans MH
 refine ⟨_, rfl, _, _, rfl, rfl, ⟨by decide, by decide, by decide⟩, _, _, rfl, rfl, p, _, rfl, MH.2, by decide, by decide, fun rI HI aI cI MI => ⟨(by show 4 ≤ sizeLine; decide), fun qJ hqJ => ?_⟩⟩
 have MI := MH.trans MI
 have cI : rI < 10 ^ 12 + 1 := cI
 have nqJ := MI.2.ne hqJ
 have SJ : Same HI (upd HI qJ (.lst [.int 0, .int 1, .int rH, .int rI])) := Same.put (Same.refl HI) hqJ
 have hJ : (upd HI qJ (.lst [.int 0, .int 1, .int rH, .int rI])) qJ = some (.lst [.int 0, .int 1, .int rH, .int rI]) := upd_same
 have MJ := MI.then SJ
 refine ⟨_, rfl, p, 4, rfl, MJ.2, by decide, by decide, fun rK HK aK cK MK => ?_⟩
 have hK := MK.at hJ nqJ
 have MK := MJ.trans MK
 clear MJ SJ hJ
 obtain ⟨vK, eK, mK⟩ := atI_in (xs := [V.int 0, V.int 1, V.int rH, V.int rI]) aK cK
 obtain ⟨wt, rfl, t0, t1⟩ : ∃ i, vK = V.int i ∧ 0 ≤ i ∧ i ≤ 1000000000000 := by
  simp only [List.mem_cons, List.not_mem_nil, or_false] at mK
  rcases mK with rfl | rfl | rfl | rfl
  ·exact ⟨_, rfl, by decide, by decide⟩
  ·exact ⟨_, rfl, by decide, by decide⟩
  ·exact ⟨_, rfl, by omega, by omega⟩
  ·exact ⟨_, rfl, by omega, by omega⟩
 refine ⟨qJ, _, _, _, rfl, rfl, SqL.of hK, eK, ?_⟩
 refine ⟨_, rfl, _, rfl, _, rfl, _, rfl, _, rfl, _, _, rfl, rfl, _, rfl, (by show 5 ≤ sizeLine; decide), fun t HL SL hL => ?_⟩
 exact k t ⟨r1, (r1 + 1 + r2) % m, l + b * n, l + b * n + wd, wt⟩ HL (MK.then SL) hL ⟨a1, c1, g0, g1, g2, by show 0 ≤ l + b * n; omega, by show l + b * n ≤ l + b * n + wd; omega, by show l + b * n + wd < l + b * n + b; omega, by show l + b * n + wd < 10 ^ 60; omega, t0, t1⟩
end
end HN
namespace HN
open PySem L2 PyProof.Rows
def spNetW : Sp := fun vs H Q _ => ∃ (p : Addr) (a c s g : Int), vs = [.ref p, .int a, .int c, .int s, .int g] ∧ Dk p H ∧ 1 ≤ a ∧ a ≤ 16 ∧ 1 ≤ c ∧ c ≤ 100 ∧ 0 ≤ s ∧ s ≤ 40 ∧ 1 ≤ g ∧ g ≤ 10 ^ 30 ∧
 ∀ (t : Addr) (v : V) (h : Addr) (b m : Int) (sp : List Sn) (hs : List Int) (H' : Hp), Md p H H' → H' t = some (.tup [v, .ref h]) → IsD H' v (netP b m sp) → NetT b m sp → b ≤ 10 ^ 33 → H' h = some (.tup (hs.map V.int)) → (hs.length : Int) = m → (∀ x ∈ hs, 0 ≤ x ∧ x < b) → m ≤ a → b ≤ c * g → Q (.ref t) H'
abbrev sNetD : Stmt := top 34
section
variable {P : Program} {w : World} {K : PySem.W.Frag} {mg : Str → Option Value} {base : Heap}
theorem scNetD : FnScope ["_law_deck", "_law_most", "_law_beats_here", "_law_size", "_law_great", "_law_many", "_law_beat", "_law_hidden", "_law_kept", "_law_spans", "_law_k"] ["_law_deck", "_law_most", "_law_beats_here", "_law_size", "_law_great"] (defScope sNetD) := ⟨rfl, rfl, rfl, by decide +kernel, rfl, by decide +kernel, by decide +kernel⟩
theorem ok_netD {f f1 f2 : Addr} {fd fd1 fd2 : FuncData} (F : Fun K "_law_net" "_law_net" sNetD f fd) (T : Nm mg) (T2 : Nt mg) (G1 : Fn K mg "_law_draw" sDrawD ["_law_deck", "_law_most"] f1 fd1) (G2 : Fn K mg "_law_span" sSpanD ["_law_deck", "_law_beat", "_law_many", "_law_hidden", "_law_kept"] f2 fd2) : FnOk P w K mg base CX0 3 f fd ["_law_deck", "_law_most", "_law_beats_here", "_law_size", "_law_great"] spNetW := by
 have F1 : FnOk P w K mg base CX0 1 f1 fd1 ["_law_deck", "_law_most"] spDrawD := ok_drawD G1.F T
 have F2 : FnOk P w K mg base CX0 2 f2 fd2 ["_law_deck", "_law_beat", "_law_many", "_law_hidden", "_law_kept"] spSpanD := ok_spanD G2.F T G1
 refine F.ok scNetD (fun vs H Q E h => by obtain ⟨p, a, c, s, g, rfl, _⟩ := h; rfl) (fun cdv A outer s H vs Q E hr h => ?_)
 obtain ⟨p, a, c, s0, g, rfl, hp, a1, a2, c1, c2, s1, s2, g1, g2, k⟩ := h
 have hr1 : Room 1 _ := hr.mono (by decide)
 refine ⟨_, PSl.h (l_cons ⟨(ps_set (i := 5) scNetD.nd rfl (Or.inl rfl) (pe_op op_add pe_int (pc1 G1 F1 hr1 (pa_cons (pv 0) (pa_cons (pv 1) pa_nil)))))⟩
  (l_cons ⟨(ps_set (i := 6) scNetD.nd rfl (Or.inr rfl) (pe_op op_add pe_int (pc1 G1 F1 hr1 (pa_cons (pv 0) (pa_cons (pv 2) pa_nil)))))⟩
  (l_cons ⟨(ps_cutK (ps_if (pt_cmpR op_eq (pc1 G1 F1 hr1 (pa_cons (pv 0) (pa_cons pe_int pa_nil))) pe_int (nomark _)) (pss_one (ps_set (i := 6) scNetD.nd rfl (Or.inr rfl) (pe_op op_mul (pv 6) (pe_op op_add pe_int (pc1 G1 F1 hr1 (pa_cons (pv 0) (pa_cons (pv 4) pa_nil))))))) pss_nil))⟩
  (l_cons ⟨(ps_set (i := 7) scNetD.nd rfl (Or.inl rfl) (pe_callTy call_tupA rfl T.ttup boot_tuple (pa_cons (pe_comp (fr := ["_law_deck", "_law_beat"]) (js := [0, 6]) rfl (pi_range1 rfl T2.range (pa_cons (pv 5) pa_nil)) (by decide +kernel) rfl (by decide +kernel) rfl (by show ∀ y : Str × NameKind, y ∈ _ → y.2 = NameKind.free → List.lookup y.1 (defScope sNetD).names = some NameKind.cell; decide +kernel) (by decide +kernel) rfl (by decide +kernel) (fun _ _ _ _ _ => ⟨(pc1 G1 F1 hr1 (pa_cons (pv 1) (pa_cons (pv 2) pa_nil))), pts_nil⟩)) pa_nil)))⟩
  (l_cons ⟨(ps_set (i := 8) scNetD.nd rfl (Or.inl rfl) (pe_cmpR op_eq (pc1 G1 F1 hr1 (pa_cons (pv 0) (pa_cons pe_int pa_nil))) pe_int (nomark _)))⟩
  (l_cons ⟨(ps_set (i := 9) scNetD.nd rfl (Or.inl rfl) (pe_lst pa_nil))⟩
  (l_cons ⟨(ps_cutK (ps_if (pt_cmpR op_gt (pv 5) pe_int (nomark _)) (pss_one (ps_for PassesOwn.never rfl (pi_range1 rfl T2.range (pa_cons (pc1 G1 F1 hr1 (pa_cons (pv 0) (pa_cons (pe_op op_add (pv 3) pe_int) pa_nil))) pa_nil)) (pg_name (i := 10) scNetD.nd rfl (Or.inl rfl)) (pss_one (ps_expr (pe_bm PySem.F.plainAttrs_list PySem.F.slot_list_append PySem.F.type_list_append mt_append (pv 9) (pa_cons (pc1 G2 F2 hr (pa_cons (pv 0) (pa_cons (pv 6) (pa_cons (pv 5) (pa_cons (pv 7) (pa_cons (pv 8) pa_nil)))))) pa_nil)))))) pss_nil))⟩
  (l_one ⟨(ps_ret (pe_tupA (pa_cons (pe_tupA (pa_cons (pv 6) (pa_cons (pv 5) (pa_cons (pe_callTy call_tupA rfl T.ttup boot_tuple (pa_cons (pv 9) pa_nil)) pa_nil)))) (pa_cons (pv 7) pa_nil))))⟩)))))))), ?_⟩
 refine ⟨_, rfl, _, rfl, p, a, rfl, hp, by omega, by omega, fun r1 H1 r10 r11 M1 => ⟨_, _, rfl, rfl, ?_⟩⟩
 refine ⟨_, rfl, _, rfl, p, c, rfl, M1.2, by omega, by omega, fun r2 H2 r20 r21 M2 => ⟨_, _, rfl, rfl, ?_⟩⟩
 have M2 := M1.trans M2
 refine ⟨fun σ' H' => Md p H H' ∧ ∃ b, 1 ≤ b ∧ b ≤ 10 ^ 33 ∧ b ≤ c * g ∧ σ' = [some (.ref p), some (.int a), some (.int c), some (.int s0), some (.int g), some (.int (1 + r1)), some (.int b), none, none, none, none], ?_, ?_⟩
 rotate_left
 ·refine ⟨_, rfl, p, 5, rfl, M2.2, by decide, by decide, fun r3 H3 r30 r31 M3 => ⟨rfl, _, rfl, ?_⟩⟩
  have M3 := M2.trans M3
  refine ite2 (fun _ => ?_) (fun _ => ⟨M3, 1 + r2, by omega, by omega, Int.le_trans (by omega : 1 + r2 ≤ c * 1) (Int.mul_le_mul_of_nonneg_left g1 (by omega)), rfl⟩)
  refine ⟨_, rfl, _, rfl, _, rfl, p, g, rfl, M3.2, by omega, by omega, fun r4 H4 r40 r41 M4 => ⟨_, _, rfl, rfl, _, _, rfl, rfl, .inl ⟨by omega, by omega⟩, ?_⟩⟩
  refine ⟨M3.trans M4, _, ?_, ?_, Int.mul_le_mul (by omega) (by omega) (by omega) (by omega), rfl⟩
  ·have : 1 * 1 ≤ (1 + r2) * (1 + r4) := Int.mul_le_mul (by omega) (by omega) (by decide) (by omega)
   omega
  ·have : (1 + r2) * (1 + r4) ≤ 100 * (10 ^ 30) := Int.mul_le_mul (by omega) (by omega) (by omega) (by decide)
   omega
 rintro σ' H3 ⟨M3, b, b1, b2, bg, rfl⟩
 refine ⟨_, rfl, 1 + r1, rfl, by omega, by omega, ?_⟩
 refine comp_range (n := (1 + r1).toNat) (fun i zs H4 => Md p H H4 ∧ ∃ hs : List Int, zs = hs.map V.int ∧ hs.length = i ∧ ∀ x ∈ hs, 0 ≤ x ∧ x < b) ⟨M3, [], rfl, rfl, fun _ h => absurd h (by simp)⟩ (fun i zs H4 _ ⟨_, hs, e, hl, _⟩ => by rw [e, List.length_map, hl]; exact Nat.le_refl _) (small_le (by omega)) (fun i zs H4 hi ⟨M4, hs, e4, hl4, all4⟩ => ?_) (fun zs H4 ⟨M4, hs, e4, hl4, all4⟩ D hD => ?_)
 ·refine tNoIf_go ?_
  refine ⟨_, rfl, _, rfl, p, b, rfl, M4.2, by omega, by omega, fun r5 H5 r50 r51 M5 => ⟨M4.trans M5, hs ++ [r5], by rw [e4, List.map_append]; rfl, by rw [List.length_append, hl4]; rfl, fun x hx => ?_⟩⟩
  rcases List.mem_append.mp hx with hx | hx
  ·exact all4 x hx
  ·rw [List.mem_singleton.mp hx]; exact ⟨r50, r51⟩
 subst e4
 have S5 := Same.put (o := .lst (hs.map V.int)) (Same.refl H4) hD
 have hD5 : (upd H4 D (.lst (hs.map V.int))) D = some (.lst (hs.map V.int)) := upd_same
 generalize upd H4 D (.lst (hs.map V.int)) = H5 at S5 hD5 ⊢
 refine ⟨D, _, rfl, SqL.of hD5, fun h H6 S6 h6 => ?_⟩
 have M6 := M4.then (S5.trans S6)
 clear S5 S6 hD5 hD M4
 have hlh : (hs.length : Int) = 1 + r1 := by omega
 refine ⟨_, rfl, p, 2, rfl, M6.2, by decide, by decide, fun r7 H7 _ _ M7 => ⟨rfl, ?_⟩⟩
 have h7 := Md.tupK M6.2 M7 _ _ h6
 have M7 := M6.trans M7
 clear M6 h6
 obtain ⟨kp, hkp⟩ : ∃ kp : Bool, kp = decide (V.int r7 = V.int 1) := ⟨_, rfl⟩
 refine ⟨Nat.zero_le _, fun Ls hLs => ?_⟩
 have hLsp := M7.2.ne hLs
 have hLsH : H Ls = none := by
  cases z : H Ls with
  | none => rfl
  | some o => rw [M7.1 Ls o hLsp z] at hLs; cases hLs
 have S8 : Same H7 (upd H7 Ls (.lst [])) := Same.put (Same.refl H7) hLs
 have hLs8 : (upd H7 Ls (.lst [])) Ls = some (.lst []) := upd_same
 generalize upd H7 Ls (.lst []) = H8 at S8 hLs8 ⊢
 have M8 := M7.then S8
 have h8 := S8 _ _ h7
 clear M7 h7 S8
 refine ⟨fun σ' H' => Md p H H' ∧ H' h = some (.tup (hs.map V.int)) ∧ ∃ (v8 vk : Option V) (zs : List V) (sp : List Sn), σ' = [some (.ref p), some (.int a), some (.int c), some (.int s0), some (.int g), some (.int (1 + r1)), some (.int b), some (.ref h), v8, some (.ref Ls), vk] ∧ H' Ls = some (.lst zs) ∧ IsDs H' zs (rowsD Sn.row sp) ∧ sp.length ≤ 40 ∧ ∀ z ∈ sp, SnOk b (1 + r1) z, ?_, ?_⟩
 rotate_left
 ·refine ⟨_, rfl, _, _, rfl, rfl, _, rfl, ?_⟩
  refine ite2 (fun hm => ?_) (fun _ => ⟨M8, h8, _, none, [], [], rfl, hLs8, .nil, by simp, fun _ h => absurd h (by simp)⟩)
  have hm : 1 + r1 > 1 := of_decide_eq_true hm
  refine ⟨_, rfl, _, rfl, _, _, rfl, rfl, p, _, rfl, M8.2, by omega, by omega, fun r9 H9 r90 r91 M9 => ⟨r9, rfl, by omega, by omega, ?_⟩⟩
  have h9 := Md.tupK M8.2 M9 _ _ h8
  have hLs9 := M9.at hLs8 hLsp
  have M9 := M8.trans M9
  refine for_range (n := r9.toNat) (fun i σ H' => Md p H H' ∧ H' h = some (.tup (hs.map V.int)) ∧ ∃ (vk : Option V) (zs : List V) (sp : List Sn), σ = [some (.ref p), some (.int a), some (.int c), some (.int s0), some (.int g), some (.int (1 + r1)), some (.int b), some (.ref h), some (.bl (decide (V.int r7 = V.int 1))), some (.ref Ls), vk] ∧ H' Ls = some (.lst zs) ∧ IsDs H' zs (rowsD Sn.row sp) ∧ sp.length = i ∧ ∀ z ∈ sp, SnOk b (1 + r1) z) ⟨M9, h9, none, [], [], rfl, hLs9, .nil, rfl, fun _ h => absurd h (by simp)⟩ ?_ ?_
  ·rintro i σ HA hi ⟨MA, hA, vk, zs, sp, rfl, hLsA, dA, lA, allA⟩
   refine ⟨_, rfl, .inl ⟨rfl, _, SqL.of hLsA⟩, _, rfl, _, rfl, _, rfl, _, rfl, _, rfl, p, h, b, 1 + r1, hs, _, rfl, MA.2, b1, b2, by omega, by omega, hA, hlh, fun t z HB MB hB okB => ?_⟩
   have KB := Md.tupK MA.2 MB
   have hLsB := MB.at hLsA hLsp
   have MB := MA.trans MB
   have lz : zs.length = sp.length := by rw [dA.length, List.length_map]
   refine ⟨Ls, zs, _, rfl, rfl, hLsB, (Nat.lt_of_lt_of_le (by omega : zs.length < 1000) (by decide : 1000 ≤ sizeLine)), ?_⟩
   have KC : TupK HB (upd HB Ls (.lst (zs ++ [.ref t]))) := tupK_upd hLsB
   refine ⟨⟨fun q o hq e => ?_, ?_⟩, KC _ _ (KB _ _ hA), _, zs ++ [.ref t], sp ++ [z], rfl, upd_same, ?_, by rw [List.length_append, lA]; rfl, fun z' hz' => ?_⟩
   ·rw [upd_ne (fun z => by rw [z, hLsH] at e; cases e)]
    exact MB.1 q o hq e
   ·obtain ⟨k1, n1, e1, e2⟩ := MB.2
    exact ⟨k1, n1, by rw [upd_ne hLsp.symm]; exact e1, e2⟩
   ·unfold rowsD
    rw [List.map_append]
    exact (rows_keep (KB.trans KC) dA).append (.cons (.tup (KC _ _ hB) (IsDs.ints z.row)) .nil)
   ·rcases List.mem_append.mp hz' with hz' | hz'
    ·exact allA z' hz'
    ·rw [List.mem_singleton.mp hz']; exact okB
  ·rintro σ HA ⟨MA, hA, vk, zs, sp, rfl, hLsA, dA, lA, allA⟩
   exact ⟨MA, hA, _, vk, zs, sp, rfl, hLsA, dA, by omega, allA⟩
 rintro σ' HA ⟨MA, hA, v8, vk, zs, sp, rfl, hLsA, dA, lA, allA⟩
 refine ⟨_, rfl, _, rfl, _, rfl, Ls, _, rfl, SqL.of hLsA, fun qB HB SB hB => ⟨(by show 3 ≤ sizeLine; decide), fun tC HC SC hC => ⟨_, rfl, (by show 2 ≤ sizeLine; decide), fun tD HD SD hD' => ?_⟩⟩⟩
 have SBD := SB.trans (SC.trans SD)
 exact k tD (.ref tC) h b (1 + r1) sp hs HD (MA.then SBD) hD' (.tup (SD _ _ hC) (.cons (.int b) (.cons (.int _) (.cons (.tup (SD _ _ (SC _ _ hB)) (dA.same SBD)) .nil)))) ⟨b1, by omega, by omega, by omega, lA, allA⟩ b2 (SBD _ _ hA) hlh all4 (by omega) bg
end
end HN
namespace HN
open PySem L2 PyProof.Rows
abbrev sLeadsD : Stmt := top 35
section
variable {P : Program} {w : World} {K : PySem.W.Frag} {mg : Str → Option Value} {base : Heap}
theorem scLeadsD : FnScope ["_law_net_here", "_law_step", "_law_start", "_law_goal"] ["_law_net_here", "_law_step"] (defScope sLeadsD) := ⟨rfl, rfl, rfl, by decide +kernel, rfl, by decide +kernel, by decide +kernel⟩
theorem ok_leadsD {f : Addr} {fd : FuncData} (F : Fun K "_law_leads" "_law_leads" sLeadsD f fd) (T : Nm mg) : FnOk P w K mg base CX0 1 f fd ["_law_net_here", "_law_step"] spLeads := by
 refine F.ok scLeadsD (fun vs H Q E h => by obtain ⟨v, q, b, m, sp, s, x, rfl, _⟩ := h; rfl) (fun cdv A outer s H vs Q E hr h => ?_)
 obtain ⟨v, q, b, m, sp, st, x, rfl, hv, hq, hx, hd, k⟩ := h
 obtain ⟨t, p, ys, rfl, ht, hp, hl, hy⟩ := netP_of hv
 obtain ⟨qx, hqx, hqx2⟩ := hy st.i x hx
 refine ⟨_, PSl.h (l_cons ⟨(ps_asg (pe_slice sl_tupN (pe_ix ix_tup (pe_ix ix_tup (pv 0) pe_int (fun _ _ => rfl)) (pe_ix ix_tup (pv 1) pe_int (fun _ _ => rfl)) (fun _ _ => rfl)) po_none (po_some pe_int)) (pg_tup rfl (pgs_cons (pg_name (i := 2) scLeadsD.nd rfl (Or.inl rfl)) (pgs_cons (pg_name (i := 3) scLeadsD.nd rfl (Or.inl rfl)) pgs_nil))))⟩
  (l_one ⟨(ps_ret (PEs.h (k_ix ix_list (k_lst (a_cons (k_tup (a_cons ⟨pv 2⟩ (a_cons ⟨pv 3⟩ a_nil))) (a_cons (k_tup (a_cons ⟨pv 3⟩ (a_cons ⟨pv 2⟩ a_nil))) a_nil))) ⟨pe_callTy call_int1 rfl T.tint boot_int (pa_cons (pe_cmpR op_eq (pe_ix ix_tup (pv 1) pe_int (fun _ _ => rfl)) (pe_un un_neg pe_int) (nomark _)) pa_nil)⟩ (fun _ _ => rfl))))⟩)), ?_⟩
 refine ⟨_, rfl, t, _, _, _, rfl, rfl, SqT.of ht, atI_nat (j := 2) rfl, _, rfl, q, _, _, _, rfl, rfl, SqT.of hq, atI_nat (j := 0) rfl, p, _, _, _, rfl, rfl, SqT.of hp, atI_nat (j := st.i) hqx, _, rfl, qx, _, rfl, hqx2, fun p1 H1 S1 h1 => ?_⟩
 have h1 : H1 p1 = some (.tup [.int x.s, .int x.g]) := h1
 refine ⟨p1, _, rfl, SqT.of h1, rfl, _, _, rfl, _, _, rfl, rfl, ?_⟩
 refine ⟨_, rfl, _, rfl, (by show 2 ≤ sizeLine; decide), fun q2 H2 S2 h2 => ⟨_, rfl, _, rfl, (by show 2 ≤ sizeLine; decide), fun q3 H3 S3 h3 => ⟨(by show 2 ≤ sizeLine; decide), fun qL H4 S4 h4 => ?_⟩⟩⟩
 have S14 := S2.trans (S3.trans S4)
 refine ⟨_, rfl, q, _, _, _, rfl, rfl, SqT.of (S14 _ _ (S1 _ _ hq)), atI_nat (j := 1) rfl, _, rfl, rfl, .inr ⟨_, rfl, ?_⟩⟩
 rcases hd with e | e
 ·have e2 : decide (V.int st.d = V.int (-1)) = false := decide_eq_false (fun z => by injection z with z; omega)
  refine ⟨qL, _, _, _, rfl, rfl, SqL.of h4, (show atI [V.ref q2, V.ref q3] (if decide (V.int st.d = V.int (-1)) = true then 1 else 0) = some (V.ref q2) by rw [e2]; rfl), k q2 H4 (S1.trans S14) ?_⟩
  rw [S4 _ _ (S3 _ _ h2)]
  unfold frm too
  rw [if_pos e, if_pos e]
 ·have e2 : decide (V.int st.d = V.int (-1)) = true := decide_eq_true (by rw [e])
  refine ⟨qL, _, _, _, rfl, rfl, SqL.of h4, (show atI [V.ref q2, V.ref q3] (if decide (V.int st.d = V.int (-1)) = true then 1 else 0) = some (V.ref q3) by rw [e2]; rfl), k q3 H4 (S1.trans S14) ?_⟩
  rw [S4 _ _ h3]
  unfold frm too
  rw [if_neg (by omega), if_neg (by omega)]
end
end HN
namespace HN
open PySem L2 PyProof.Rows
abbrev sSum : Stmt := top 10
abbrev sBeats : Stmt := top 11
section
variable {P : Program} {w : World} {K : PySem.W.Frag} {mg : Str → Option Value} {base : Heap}
theorem scSum : FnScope ["bounds", "way", "low", "high", "step", "bound"] ["bounds", "way"] (defScope sSum) := ⟨rfl, rfl, rfl, by decide +kernel, rfl, by decide +kernel, by decide +kernel⟩
theorem ok_sum {f : Addr} {fd : FuncData} (F : Fun K "sum_of" "sum_of" sSum f fd) : FnOk P w K mg base CX0 1 f fd ["bounds", "way"] spSum := by
 refine F.ok scSum (fun vs H Q E h => by obtain ⟨vb, vw, bs, ws, rfl, _⟩ := h; rfl) (fun cdv A outer s H vs Q E hr h => ?_)
 obtain ⟨vb, vw, bs, ws, rfl, hb, hw, hin, k⟩ := h
 obtain ⟨pb, yb, rfl, hpb, hlb, rb⟩ := rows_of hb
 obtain ⟨pw, yw, rfl, hpw, hlw, rw'⟩ := rows_of hw
 refine ⟨_, PSl.h (l_cons ⟨(ps_set (i := 2) scSum.nd rfl (Or.inl rfl) pe_int)⟩
  (l_cons ⟨(ps_set (i := 3) scSum.nd rfl (Or.inl rfl) pe_int)⟩
  (l_cons ⟨(ps_for PassesOwn.never rfl (pi_tup (pv 1)) (pg_name (i := 4) scSum.nd rfl (Or.inl rfl)) (PSl.h (l_cons ⟨(ps_set (i := 5) scSum.nd rfl (Or.inl rfl) (pe_ix ix_tup (pv 0) (pe_ix ix_tup (pv 4) pe_int (fun _ _ => rfl)) (fun _ _ => rfl)))⟩
  (l_one ⟨(ps_if (pt_cmpR op_eq (pe_ix ix_tup (pv 4) pe_int (fun _ _ => rfl)) pe_int (nomark _)) (PSl.h (l_cons ⟨(ps_aug (i := 2) scSum.nd rfl (Or.inl rfl) (pe_ix ix_tup (pv 5) pe_int (fun _ _ => rfl)) ip_add)⟩
  (l_one ⟨(ps_aug (i := 3) scSum.nd rfl (Or.inl rfl) (pe_ix ix_tup (pv 5) pe_int (fun _ _ => rfl)) ip_add)⟩))) (PSl.h (l_cons ⟨(ps_aug (i := 2) scSum.nd rfl (Or.inl rfl) (pe_ix ix_tup (pv 5) pe_int (fun _ _ => rfl)) ip_sub)⟩
  (l_one ⟨(ps_aug (i := 3) scSum.nd rfl (Or.inl rfl) (pe_ix ix_tup (pv 5) pe_int (fun _ _ => rfl)) ip_sub)⟩))))⟩))))⟩
  (l_one ⟨(ps_ret (pe_tupA (pa_cons (pv 2) (pa_cons (pv 3) pa_nil))))⟩)))), ?_⟩
 refine ⟨_, rfl, pw, rfl, ⟨_, SqT.of hpw⟩, ?_⟩
 refine for_tup (K := K) (xs := yw) (fun i σ H2 => H2 = H ∧ ∃ v4 v5, σ = [some (.ref pb), some (.ref pw), some (.int (sumLo bs (ws.take i))), some (.int (sumHi bs (ws.take i))), v4, v5]) ⟨rfl, none, none, rfl⟩ (fun i σ H2 _ ⟨e1, _⟩ => by rw [e1]; exact SqT.of hpw) ?_ ?_
 ·rintro i y σ H2 hy ⟨rfl, v4, v5, rfl⟩
  have hi : i < ws.length := by rw [← hlw]; exact (List.getElem?_eq_some_iff.mp hy).1
  obtain ⟨q, hq, hq2⟩ := rows_at rw' (gE hi)
  rw [hy] at hq
  cases hq
  obtain ⟨i1, d1⟩ := hin ws[i] (List.getElem_mem hi)
  have hm1 : sumLo bs (ws.take (i + 1)) = sumLo bs (ws.take i) + lowS bs ws[i] := by
   unfold sumLo
   rw [List.take_add_one, gE hi, List.map_append, List.sum_append]; simp
  have hm2 : sumHi bs (ws.take (i + 1)) = sumHi bs (ws.take i) + highS bs ws[i] := by
   unfold sumHi
   rw [List.take_add_one, gE hi, List.map_append, List.sum_append]; simp
  obtain ⟨qb, hqb, hqb2⟩ := rows_at rb (gE i1)
  refine ⟨_, rfl, _, rfl, q, _, _, _, rfl, rfl, SqT.of hq2, atI_nat (j := 0) rfl, pb, _, _, _, rfl, rfl, SqT.of hpb, atI_nat (j := ws[i].i) hqb, ?_⟩
  refine ⟨_, rfl, q, _, _, _, rfl, rfl, SqT.of hq2, atI_nat (j := 1) rfl, rfl, _, rfl, ?_⟩
  refine ite2 (fun h1 => ?_) (fun h1 => ?_)
  ·have h1 : ws[i].d = 1 := by have := of_decide_eq_true h1; injection this
   refine ⟨_, rfl, _, rfl, qb, _, _, _, rfl, rfl, SqT.of hqb2, atI_nat (j := 0) rfl, _, _, rfl, rfl, ?_⟩
   refine ⟨_, rfl, _, rfl, qb, _, _, _, rfl, rfl, SqT.of hqb2, atI_nat (j := 1) rfl, _, _, rfl, rfl, rfl, some (.ref q), some (.ref qb), ?_⟩
   have l1 : lowS bs ws[i] = bs[ws[i].i].1 := by unfold lowS; rw [gE i1]; exact if_pos h1
   have l2 : highS bs ws[i] = bs[ws[i].i].2 := by unfold highS; rw [gE i1]; exact if_pos h1
   rw [hm1, hm2, l1, l2]; rfl
  ·have h1 : ws[i].d ≠ 1 := fun z => h1 (decide_eq_true (by rw [z]))
   refine ⟨_, rfl, _, rfl, qb, _, _, _, rfl, rfl, SqT.of hqb2, atI_nat (j := 1) rfl, _, _, rfl, rfl, ?_⟩
   refine ⟨_, rfl, _, rfl, qb, _, _, _, rfl, rfl, SqT.of hqb2, atI_nat (j := 0) rfl, _, _, rfl, rfl, rfl, some (.ref q), some (.ref qb), ?_⟩
   have l1 : lowS bs ws[i] = -bs[ws[i].i].2 := by unfold lowS; rw [gE i1]; exact if_neg h1
   have l2 : highS bs ws[i] = -bs[ws[i].i].1 := by unfold highS; rw [gE i1]; exact if_neg h1
   rw [hm1, hm2, l1, l2, ← Int.sub_eq_add_neg, ← Int.sub_eq_add_neg]; rfl
 ·rintro σ H2 ⟨rfl, v4, v5, rfl⟩
  rw [hlw, List.take_length]
  exact ⟨_, rfl, _, rfl, (by show 2 ≤ sizeLine; decide), fun p3 H3 S3 h3 => k p3 H3 S3 h3⟩
theorem scBeats : FnScope ["net", "bounds", "ring", "beat", "ends"] ["net", "bounds", "ring"] (defScope sBeats) := ⟨rfl, rfl, rfl, by decide +kernel, rfl, by decide +kernel, by decide +kernel⟩
theorem ok_beats {f f1 : Addr} {fd fd1 : FuncData} (F : Fun K "beats_of" "beats_of" sBeats f fd) (G1 : Fn K mg "sum_of" sSum ["bounds", "way"] f1 fd1) : FnOk P w K mg base CX0 2 f fd ["net", "bounds", "ring"] spBeats := by
 have F1 : FnOk P w K mg base CX0 1 f1 fd1 ["bounds", "way"] spSum := ok_sum G1.F
 refine F.ok scBeats (fun vs H Q E h => by obtain ⟨vn, vb, vw, b, m, sp, bs, ws, rfl, _⟩ := h; rfl) (fun cdv A outer s H vs Q E hr h => ?_)
 obtain ⟨vn, vb, vw, b, m, sp, bs, ws, rfl, hv, hb0, hb1, hb, hw, hin, k⟩ := h
 obtain ⟨t, pn, ys, rfl, ht, _⟩ := netP_of hv
 refine ⟨_, PSl.h (l_cons ⟨(ps_set (i := 3) scBeats.nd rfl (Or.inl rfl) (pe_ix ix_tup (pv 0) pe_int (fun _ _ => rfl)))⟩
  (l_cons ⟨(ps_set (i := 4) scBeats.nd rfl (Or.inl rfl) (pc1 G1 F1 hr (pa_cons (pv 1) (pa_cons (pv 2) pa_nil))))⟩
  (l_one ⟨(ps_ret (pe_tupA (pa_cons (pe_un un_neg (pe_op op_fdivB (pe_un un_neg (pe_ix ix_tup (pv 4) pe_int (fun _ _ => rfl))) (pv 3))) (pa_cons (pe_op op_fdivB (pe_ix ix_tup (pv 4) pe_int (fun _ _ => rfl)) (pv 3)) pa_nil))))⟩))), ?_⟩
 refine ⟨_, rfl, t, _, _, _, rfl, rfl, SqT.of ht, atI_nat (j := 0) rfl, ?_⟩
 refine ⟨_, rfl, _, rfl, vb, vw, bs, ws, rfl, hb, hw, hin, fun p1 H1 S1 h1 => ?_⟩
 refine ⟨_, rfl, p1, _, _, _, rfl, rfl, SqT.of h1, atI_nat (j := 0) rfl, _, rfl, _, rfl, _, _, rfl, rfl, log_ok hb0 hb1, _, rfl, ?_⟩
 refine ⟨_, rfl, p1, _, _, _, rfl, rfl, SqT.of h1, atI_nat (j := 1) rfl, _, rfl, _, _, rfl, rfl, log_ok hb0 hb1, (by show 2 ≤ sizeLine; decide), fun p2 H2 S2 h2 => k p2 H2 (S1.trans S2) h2⟩
end
end HN
namespace HN
open PySem L2 PyProof.Rows
abbrev sDead : Stmt := top 12
abbrev sSure : Stmt := top 13
abbrev sIsRight : Stmt := top 26
section
variable {P : Program} {w : World} {K : PySem.W.Frag} {mg : Str → Option Value} {base : Heap}
theorem scDead : FnScope ["net", "bounds", "ring", "beats"] ["net", "bounds", "ring"] (defScope sDead) := ⟨rfl, rfl, rfl, by decide +kernel, rfl, by decide +kernel, by decide +kernel⟩
theorem ok_dead {f f1 : Addr} {fd fd1 : FuncData} (F : Fun K "is_dead" "is_dead" sDead f fd) (G1 : Fn K mg "beats_of" sBeats ["net", "bounds", "ring"] f1 fd1) (F1 : FnOk P w K mg base CX0 2 f1 fd1 ["net", "bounds", "ring"] spBeats) : FnOk P w K mg base CX0 3 f fd ["net", "bounds", "ring"] spDead := by
 refine F.ok scDead (fun vs H Q E h => by obtain ⟨vn, vb, vw, b, m, sp, bs, ws, rfl, _⟩ := h; rfl) (fun cdv A outer s H vs Q E hr h => ?_)
 obtain ⟨vn, vb, vw, b, m, sp, bs, ws, rfl, hv, hb0, hb1, hb, hw, hin, k⟩ := h
 refine ⟨_, PSl.h (l_cons ⟨(ps_set (i := 3) scDead.nd rfl (Or.inl rfl) (pc1 G1 F1 hr (pa_cons (pv 0) (pa_cons (pv 1) (pa_cons (pv 2) pa_nil)))))⟩
  (l_one ⟨(ps_ret (pe_cmpR op_gt (pe_ix ix_tup (pv 3) pe_int (fun _ _ => rfl)) (pe_ix ix_tup (pv 3) pe_int (fun _ _ => rfl)) (nomark _)))⟩)), ?_⟩
 refine ⟨_, rfl, _, rfl, _, rfl, vn, vb, vw, b, m, sp, bs, ws, rfl, hv, hb0, hb1, hb, hw, hin, fun p1 H1 S1 h1 => ?_⟩
 exact ⟨_, rfl, p1, _, _, _, rfl, rfl, SqT.of h1, atI_nat (j := 0) rfl, _, rfl, p1, _, _, _, rfl, rfl, SqT.of h1, atI_nat (j := 1) rfl, _, _, rfl, rfl, k H1 S1⟩
theorem scSure : FnScope ["net", "bounds", "ring", "beats"] ["net", "bounds", "ring"] (defScope sSure) := ⟨rfl, rfl, rfl, by decide +kernel, rfl, by decide +kernel, by decide +kernel⟩
theorem ok_sure {f f1 : Addr} {fd fd1 : FuncData} (F : Fun K "is_sure" "is_sure" sSure f fd) (G1 : Fn K mg "beats_of" sBeats ["net", "bounds", "ring"] f1 fd1) (F1 : FnOk P w K mg base CX0 2 f1 fd1 ["net", "bounds", "ring"] spBeats) : FnOk P w K mg base CX0 3 f fd ["net", "bounds", "ring"] spSure := by
 refine F.ok scSure (fun vs H Q E h => by obtain ⟨vn, vb, vw, b, m, sp, bs, ws, rfl, _⟩ := h; rfl) (fun cdv A outer s H vs Q E hr h => ?_)
 obtain ⟨vn, vb, vw, b, m, sp, bs, ws, rfl, hv, hb0, hb1, hb, hw, hin, k⟩ := h
 refine ⟨_, PSl.h (l_cons ⟨(ps_set (i := 3) scSure.nd rfl (Or.inl rfl) (pc1 G1 F1 hr (pa_cons (pv 0) (pa_cons (pv 1) (pa_cons (pv 2) pa_nil)))))⟩
  (l_one ⟨(ps_ret (pe_cmpR op_eq (pe_ix ix_tup (pv 3) pe_int (fun _ _ => rfl)) (pe_ix ix_tup (pv 3) pe_int (fun _ _ => rfl)) (nomark _)))⟩)), ?_⟩
 refine ⟨_, rfl, _, rfl, _, rfl, vn, vb, vw, b, m, sp, bs, ws, rfl, hv, hb0, hb1, hb, hw, hin, fun p1 H1 S1 h1 => ?_⟩
 refine ⟨_, rfl, p1, _, _, _, rfl, rfl, SqT.of h1, atI_nat (j := 0) rfl, _, rfl, p1, _, _, _, rfl, rfl, SqT.of h1, atI_nat (j := 1) rfl, rfl, ?_⟩
 have e : decide (V.int (upB b (sumLo bs ws)) = V.int (sumHi bs ws / b)) = sureB b bs ws := decide_eq_decide.mpr ⟨fun z => by injection z, fun z => by rw [z]⟩
 have k1 := k H1 S1
 rw [← e] at k1
 exact k1
theorem scIsRight : FnScope ["net", "bounds", "leaf"] ["net", "bounds", "leaf"] (defScope sIsRight) := ⟨rfl, rfl, rfl, by decide +kernel, rfl, by decide +kernel, by decide +kernel⟩
theorem ok_isRight {f f1 f2 : Addr} {fd fd1 fd2 : FuncData} (F : Fun K "is_right" "is_right" sIsRight f fd) (T : Nm mg) (G1 : Fn K mg "is_dead" sDead ["net", "bounds", "ring"] f1 fd1) (F1 : FnOk P w K mg base CX0 3 f1 fd1 ["net", "bounds", "ring"] spDead) (G2 : Fn K mg "is_sure" sSure ["net", "bounds", "ring"] f2 fd2) (F2 : FnOk P w K mg base CX0 3 f2 fd2 ["net", "bounds", "ring"] spSure) : FnOk P w K mg base CX0 4 f fd ["net", "bounds", "leaf"] spIsRight := by
 refine F.ok scIsRight (fun vs H Q E h => by obtain ⟨vn, vb, vl, b, m, sp, bs, lf, rfl, _⟩ := h; rfl) (fun cdv A outer s H vs Q E hr h => ?_)
 obtain ⟨vn, vb, vl, b, m, sp, bs, lf, rfl, hv, hb0, hb1, hb, hl, hin, k⟩ := h
 refine ⟨_, PSl.h (l_cons ⟨(ps_if (pt_cmpR op_eq (pe_ix ix_tup (pv 2) pe_int (fun _ _ => rfl)) pe_str (nomark _)) (pss_one (ps_ret (pc1 G1 F1 hr (pa_cons (pv 0) (pa_cons (pv 1) (pa_cons (pe_ix ix_tup (pv 2) pe_int (fun _ _ => rfl)) pa_nil)))))) pss_nil)⟩
  (l_one ⟨(ps_ret (pe_callB (call_all rfl) rfl T.all boot_all (pa_cons (pe_comp (fr := ["net", "bounds"]) (js := [0, 1]) rfl (pi_tup (pe_ix ix_tup (pv 2) pe_int (fun _ _ => rfl))) (by decide +kernel) rfl (by decide +kernel) rfl (by show ∀ y : Str × NameKind, y ∈ _ → y.2 = NameKind.free → List.lookup y.1 (defScope sIsRight).names = some NameKind.cell; decide +kernel) (by decide +kernel) rfl (by decide +kernel) (fun _ _ _ _ _ => ⟨(pc1 G2 F2 hr (pa_cons (pv 1) (pa_cons (pv 2) (pa_cons (pe_ix (r := rIxT K) ix_tup (pv 0) pe_int (fun _ _ => rfl)) pa_nil)))), pts_nil⟩)) pa_nil)))⟩)), ?_⟩
 cases lf with
 | ring ws =>
  obtain ⟨p, xs, rfl, hp, rx⟩ := IsD.tup_of (show IsD H vl (.tup [.str "ring", wayP ws]) from hl)
  cases rx with
  | cons h1 r1 =>
   cases r1 with
   | cons h2 r2 =>
    cases r2
    cases h1
    refine ⟨_, rfl, p, _, _, _, rfl, rfl, SqT.of hp, atI_nat (j := 0) rfl, rfl, _, rfl, iteB (by decide) ?_⟩
    exact ⟨_, rfl, _, rfl, _, rfl, p, _, _, _, rfl, rfl, SqT.of hp, atI_nat (j := 1) rfl, vn, vb, _, b, m, sp, bs, ws, rfl, hv, hb0, hb1, hb, h2, hin, fun H' S' => k H' S'⟩
 | price rows =>
  obtain ⟨p, xs, rfl, hp, rx⟩ := IsD.tup_of (show IsD H vl (.tup [.str "price", .tup (rows.map rowD)]) from hl)
  cases rx with
  | cons h1 r1 =>
   cases r1 with
   | cons h2 r2 =>
    cases r2
    cases h1
    refine ⟨_, rfl, p, _, _, _, rfl, rfl, SqT.of hp, atI_nat (j := 0) rfl, rfl, _, rfl, iteC (by decide) ?_⟩
    obtain ⟨q, ys, rfl, hq, ry⟩ := h2.tup_of
    have ly : ys.length = rows.length := by rw [ry.length, List.length_map]
    refine ⟨_, rfl, p, _, _, _, rfl, rfl, SqT.of hp, atI_nat (j := 1) rfl, q, rfl, ⟨_, SqT.of hq⟩, ?_⟩
    refine comp_tup (K := K) (a := q) (xs := ys) (fun i zs H2 => Same H H2 ∧ zs = ((rows.take i).map fun r => sureB b bs r.2).map V.bl) ⟨Same.refl H, rfl⟩ (fun i zs H2 hi ⟨e1, e2⟩ => ?_) (by rw [ly]; exact small_le hin.1) (fun i x zs H2 hx ⟨e1, e2⟩ => ?_) (fun zs H2 ⟨e1, e2⟩ D hD => ?_)
    ·refine ⟨SqT.of (e1 _ _ hq), ?_⟩
     rw [e2, List.length_map, List.length_map, List.length_take]; omega
    ·have hi : i < rows.length := by rw [← ly]; exact (List.getElem?_eq_some_iff.mp hx).1
     obtain ⟨d', hd', dx⟩ := ry.get hx
     rw [List.getElem?_map, gE hi] at hd'
     cases hd'
     obtain ⟨qr, zr, rfl, hqr, rr⟩ := dx.tup_of
     cases rr with
     | cons g1 rr2 =>
      cases rr2 with
      | cons g2 rr3 =>
       cases rr3
       cases g1
       refine tNoIf_go ?_
       refine ⟨_, rfl, _, rfl, _, rfl, qr, _, _, _, rfl, rfl, SqT.of (e1 _ _ hqr), atI_nat (j := 1) rfl, vn, vb, _, b, m, sp, bs, rows[i].2, rfl, hv.same e1, hb0, hb1, hb.same e1, g2.same e1, hin.2 _ (List.getElem_mem hi), fun H' S' => ⟨e1.trans S', ?_⟩⟩
       rw [e2, List.take_add_one, gE hi, List.map_append, List.map_append]; rfl
    ·refine ⟨D, rows.map fun r => sureB b bs r.2, rfl, SqL.of ?_, ?_⟩
     ·rw [upd_same, e2, ly, List.take_length]
     have eA : (rows.map fun r => sureB b bs r.2).all id = rightB b bs (.price rows) := by rw [List.all_map]; rfl
     rw [eA]
     exact k _ (e1.put hD)
end
end HN
namespace HN
open PySem L2 PyProof.Rows
abbrev sOwn : Stmt := top 27
abbrev sWorth : Stmt := top 28
def rGetL : V → V → Hp → VK → Prop := fun o i H Q => ∃ p xs k y, o = .ref p ∧ i = .int ((k : Nat) : Int) ∧ H p = some (.lst xs) ∧ xs[k]? = some y ∧ Q y H
theorem get_listP {X : Cx} : PGet X rGetL := by
 intro pins s σ H o i ov iv Q I ro ri h
 obtain ⟨p, xs, k, y, rfl, rfl, hp, hy, q⟩ := h
 cases (show ov = Value.ref p from ro)
 obtain ⟨t, rfl⟩ := ri
 obtain ⟨its, r, pl, hz⟩ := I.list (SqL.of (K := X.K) hp)
 obtain ⟨u, hu, ru⟩ := r.get hy
 have hl := r.length
 have hk : k < xs.length := (List.getElem?_eq_some_iff.mp hy).1
 have l63 := line63
 exact wpAny_getItem_list pl.isList (by omega) (by omega) (by simpa using hu) ⟨y, H, I, ru, q⟩
theorem row_of {H : Hp} {v : V} {r : Int × List Stp} (h : IsD H v (rowD r)) : ∃ q vw, v = .ref q ∧ H q = some (.tup [.int r.1, vw]) ∧ IsD H vw (wayP r.2) := by
 obtain ⟨q, xs, rfl, hq, rx⟩ := IsD.tup_of (show IsD H v (.tup [.int r.1, wayP r.2]) from h)
 cases rx with
 | cons g1 gr => cases gr with
  | cons g2 gr =>
   cases gr
   cases g1
   exact ⟨q, _, rfl, hq, g2⟩
theorem price_of {H : Hp} {v : V} {rows : List (Int × List Stp)} (h : IsD H v (leafP (.price rows))) : ∃ p pr ys, v = .ref p ∧ H p = some (.tup [.str "price", .ref pr]) ∧ H pr = some (.tup ys) ∧ IsDs H ys (rows.map rowD) := by
 obtain ⟨p, xs, rfl, hp, rx⟩ := IsD.tup_of (show IsD H v (.tup [.str "price", .tup (rows.map rowD)]) from h)
 cases rx with
 | cons g1 gr => cases gr with
  | cons g2 gr =>
   cases gr
   cases g1
   obtain ⟨pr, ys, rfl, hpr, ry⟩ := g2.tup_of
   exact ⟨p, pr, ys, rfl, hp, hpr, ry⟩
theorem fold_take {α β : Type} (f : β → α → β) (b : β) {xs : List α} {i : Nat} (h : i < xs.length) : (xs.take (i + 1)).foldl f b = f ((xs.take i).foldl f b) xs[i] := by
 rw [List.take_add_one, gE h, List.foldl_append]; rfl
theorem sum_take {α : Type} (f : α → Int) {xs : List α} {i : Nat} (h : i < xs.length) : ((xs.take (i + 1)).map f).sum = ((xs.take i).map f).sum + f xs[i] := by
 rw [List.take_add_one, gE h, List.map_append, List.sum_append]; simp
theorem sum_range (f : Nat → Int) (i : Nat) : ((List.range (i + 1)).map f).sum = ((List.range i).map f).sum + f i := by
 rw [List.range_succ, List.map_append, List.sum_append]; simp
section
variable {P : Program} {w : World} {K : PySem.W.Frag} {mg : Str → Option Value} {base : Heap}
theorem scOwn : FnScope ["net", "rows", "prices", "row", "step"] ["net", "rows"] (defScope sOwn) := ⟨rfl, rfl, rfl, by decide +kernel, rfl, by decide +kernel, by decide +kernel⟩
theorem ok_own {f : Addr} {fd : FuncData} (F : Fun K "own_prices" "own_prices" sOwn f fd) : FnOk P w K mg base CX0 1 f fd ["net", "rows"] spOwn := by
 refine F.ok scOwn (fun vs H Q E h => by obtain ⟨v, pr, b, m, sp, rows, rfl, _⟩ := h; rfl) (fun cdv A outer s H vs Q E hr h => ?_)
 obtain ⟨v, pr, b, m, sp, rows, rfl, hv, few, hrr, hok, k⟩ := h
 obtain ⟨t, pn, ys, rfl, ht, hpn, hl, hy⟩ := netP_of hv
 obtain ⟨pr', yr, e0, hpr, ry⟩ := hrr.tup_of
 cases e0
 have lr : yr.length = rows.length := by rw [ry.length, List.length_map]
 refine ⟨_, PSl.h (l_cons ⟨(ps_setC (iy := 2) (fr := []) (js := []) scOwn.nd rfl (Or.inl rfl) rfl (pi_tup (pe_ix ix_tup (pv 0) pe_int (fun _ _ => rfl))) (by decide +kernel) rfl (by decide +kernel) rfl (by show ∀ y : Str × NameKind, y ∈ _ → y.2 = NameKind.free → List.lookup y.1 (defScope sOwn).names = some NameKind.cell; decide +kernel) (by decide +kernel) rfl (by decide +kernel) (fun _ _ _ _ _ => ⟨(pe_ix (r := rIxT K) ix_tup (pv 0) pe_int (fun _ _ => rfl)), pts_nil⟩))⟩
  (l_cons ⟨(ps_for PassesOwn.never rfl (pi_tup (pv 1)) (pg_name (i := 3) scOwn.nd rfl (Or.inl rfl)) (pss_one (ps_for PassesOwn.never rfl (pi_tup (pe_ix ix_tup (pv 3) pe_int (fun _ _ => rfl))) (pg_name (i := 4) scOwn.nd rfl (Or.inl rfl)) (pss_one (ps_augS (pv 2) (pe_ix ix_tup (pv 4) pe_int (fun _ _ => rfl)) get_listP (pe_op op_mul (pe_ix ix_tup (pv 3) pe_int (fun _ _ => rfl)) (pe_ix ix_tup (pv 4) pe_int (fun _ _ => rfl))) ip_sub set_list)))))⟩
  (l_one ⟨(ps_ret (pv 2))⟩))), ?_⟩
 refine ⟨_, rfl, t, _, _, _, rfl, rfl, SqT.of ht, atI_nat (j := 2) rfl, pn, rfl, ⟨_, SqT.of hpn⟩, ?_⟩
 refine comp_tup (K := K) (a := pn) (xs := ys) (fun i zs H2 => H2 = H ∧ zs = ((sp.take i).map Sn.w).map V.int) ⟨rfl, rfl⟩ (fun i zs H2 hi ⟨e1, e2⟩ => ?_) (by rw [hl]; exact small_le (by omega)) (fun i x zs H2 hx ⟨e1, e2⟩ => ?_) (fun zs H2 ⟨e1, e2⟩ D hD => ?_)
 ·subst e1
  refine ⟨SqT.of hpn, ?_⟩
  rw [e2, List.length_map, List.length_map, List.length_take]; omega
 ·subst e1
  have hi : i < sp.length := by rw [← hl]; exact (List.getElem?_eq_some_iff.mp hx).1
  obtain ⟨q, hq, hq2⟩ := hy i sp[i] (gE hi)
  rw [hx] at hq
  cases hq
  refine tNoIf_go ⟨_, rfl, q, _, _, _, rfl, rfl, SqT.of hq2, atI_nat (j := 4) rfl, rfl, ?_⟩
  rw [e2, List.take_add_one, gE hi, List.map_append, List.map_append]; rfl
 subst e1
 rw [hl, List.take_length] at e2
 subst e2
 have S1 : Same H2 (upd H2 D (.lst ((sp.map Sn.w).map V.int))) := Same.put (Same.refl H2) hD
 have hD1 : (upd H2 D (.lst ((sp.map Sn.w).map V.int))) D = some (.lst ((sp.map Sn.w).map V.int)) := upd_same
 generalize upd H2 D (.lst ((sp.map Sn.w).map V.int)) = H1 at S1 hD1 ⊢
 refine ⟨_, rfl, pr, rfl, ⟨_, SqT.of (S1 _ _ hpr)⟩, ?_⟩
 refine for_tup (K := K) (xs := yr) (fun i σ H3 => Same H2 H3 ∧ (∃ v3 v4, σ = [some (.ref t), some (.ref pr), some (.ref D), v3, v4]) ∧ H3 D = some (.lst (((rows.take i).foldl rowP (sp.map Sn.w)).map V.int))) ⟨S1, ⟨none, none, rfl⟩, hD1⟩ (fun i σ H3 _ ⟨S3, _⟩ => SqT.of (S3 _ _ hpr)) ?_ ?_
 ·rintro i y σ H3 hy3 ⟨S3, ⟨v3, v4, rfl⟩, hD3⟩
  have hi : i < rows.length := by rw [← lr]; exact (List.getElem?_eq_some_iff.mp hy3).1
  obtain ⟨d, hd, dy⟩ := ry.get hy3
  rw [List.getElem?_map, gE hi] at hd
  cases hd
  obtain ⟨q, vw, rfl, hq, hw⟩ := row_of dy
  obtain ⟨pw, yw, rfl, hpw, hlw, rw'⟩ := rows_of hw
  have ok := hok rows[i] (List.getElem_mem hi)
  obtain ⟨ps, hps⟩ : ∃ ps, ps = (rows.take i).foldl rowP (sp.map Sn.w) := ⟨_, rfl⟩
  have lps : ps.length = sp.length := by rw [hps, rows_len, List.length_map]
  rw [← hps] at hD3
  refine ⟨_, rfl, q, _, _, _, rfl, rfl, SqT.of (S3 _ _ hq), atI_nat (j := 1) rfl, pw, rfl, ⟨_, SqT.of (S3 _ _ hpw)⟩, ?_⟩
  refine for_tup (K := K) (xs := yw) (fun j σ H4 => Same H2 H4 ∧ (∃ v4, σ = [some (.ref t), some (.ref pr), some (.ref D), some (.ref q), v4]) ∧ H4 D = some (.lst (((rows[i].2.take j).foldl (stepP rows[i].1) ps).map V.int))) ⟨S3, ⟨_, rfl⟩, hD3⟩ (fun j σ H4 _ ⟨S4, _⟩ => SqT.of (S4 _ _ hpw)) ?_ ?_
  ·rintro j z σ H4 hz ⟨S4, ⟨v4, rfl⟩, hD4⟩
   have hj : j < rows[i].2.length := by rw [← hlw]; exact (List.getElem?_eq_some_iff.mp hz).1
   obtain ⟨q2, e2, h2⟩ := rows_at rw' (gE hj)
   rw [hz] at e2
   cases e2
   obtain ⟨i1, d1⟩ := ok.inn rows[i].2[j] (List.getElem_mem hj)
   obtain ⟨qs, hqs⟩ : ∃ qs, qs = (rows[i].2.take j).foldl (stepP rows[i].1) ps := ⟨_, rfl⟩
   have lqs : qs.length = sp.length := by rw [hqs, steps_len, lps]
   rw [← hqs] at hD4
   have hgs : qs[rows[i].2[j].i]? = some (qs.getD rows[i].2[j].i 0) := by rw [List.getD_eq_getElem?_getD, gE (by omega)]; rfl
   refine ⟨_, rfl, _, rfl, q2, _, _, _, rfl, rfl, SqT.of (S4 _ _ h2), atI_nat (j := 0) rfl, D, _, rows[i].2[j].i, _, rfl, rfl, hD4, by rw [List.getElem?_map, hgs]; rfl, _, rfl, q, _, _, _, rfl, rfl, SqT.of (S4 _ _ hq), atI_nat (j := 0) rfl, _, rfl, q2, _, _, _, rfl, rfl, SqT.of (S4 _ _ h2), atI_nat (j := 1) rfl, _, _, rfl, rfl, .inr ?_, _, _, rfl, rfl, D, _, _, rows[i].2[j].i, rfl, rfl, hD4, (by simp [ixN, lqs, i1]), ?_⟩
   ·rcases d1 with d1 | d1 <;> rw [d1] <;> exact ⟨by decide, by decide⟩
   refine ⟨fun bb o e => ?_, ⟨_, rfl⟩, ?_⟩
   ·rw [upd_ne (fun z => by rw [z, hD] at e; cases e)]
    exact S4 _ _ e
   ·rw [upd_same, fold_take _ _ hj, ← hqs]
    congr 2
    unfold stepP
    rw [List.map_set]
  ·rintro σ H4 ⟨S4, ⟨v4, rfl⟩, hD4⟩
   refine ⟨S4, ⟨_, _, rfl⟩, ?_⟩
   rw [fold_take _ _ hi, ← hps, hD4, hlw, List.take_length]
   rfl
 ·rintro σ H3 ⟨S3, ⟨v3, v4, rfl⟩, hD3⟩
  refine ⟨_, rfl, k D H3 S3 ?_⟩
  rw [hD3, lr, List.take_length]; rfl
theorem scWorth : FnScope ["net", "bounds", "leaf", "worth", "row", "price", "bound", "span"] ["net", "bounds", "leaf"] (defScope sWorth) := ⟨rfl, rfl, rfl, by decide +kernel, rfl, by decide +kernel, by decide +kernel⟩
theorem ok_worth {f f1 f2 : Addr} {fd fd1 fd2 : FuncData} (F : Fun K "worth_of" "worth_of" sWorth f fd) (T : Nm mg) (T2 : Nt mg) (G1 : Fn K mg "beats_of" sBeats ["net", "bounds", "ring"] f1 fd1) (F1 : FnOk P w K mg base CX0 2 f1 fd1 ["net", "bounds", "ring"] spBeats) (G2 : Fn K mg "own_prices" sOwn ["net", "rows"] f2 fd2) : FnOk P w K mg base CX0 3 f fd ["net", "bounds", "leaf"] spWorth := by
 have F2 : FnOk P w K mg base CX0 1 f2 fd2 ["net", "rows"] spOwn := ok_own G2.F
 refine F.ok scWorth (fun vs H Q E h => by obtain ⟨v, vb, vl, b, m, sp, bs, rows, rfl, _⟩ := h; rfl) (fun cdv A outer s H vs Q E hr h => ?_)
 obtain ⟨v, vb, vl, b, m, sp, bs, rows, rfl, W, k⟩ := h
 have hr1 : Room 1 _ := hr.mono (by decide)
 obtain ⟨hv, hb, hl0, b0, b61, lb, few, bu, hws, hok, lr41⟩ := W
 obtain ⟨t, pn, ys, rfl, ht, hpn, hl, hy⟩ := netP_of hv
 obtain ⟨p, pr, yr, rfl, hp, hpr, ry⟩ := price_of hl0
 obtain ⟨pb, yb, rfl, hpb, hlb, rb⟩ := rows_of hb
 have lr : yr.length = rows.length := by rw [ry.length, List.length_map]
 refine ⟨_, PSl.h (l_cons ⟨(ps_set (i := 3) scWorth.nd rfl (Or.inl rfl) pe_int)⟩
  (l_cons ⟨(ps_for PassesOwn.never rfl (pi_tup (pe_ix ix_tup (pv 2) pe_int (fun _ _ => rfl))) (pg_name (i := 4) scWorth.nd rfl (Or.inl rfl)) (pss_one (ps_aug (i := 3) scWorth.nd rfl (Or.inl rfl) (pe_op op_mulB (pe_op op_mul (pe_ix ix_tup (pv 4) pe_int (fun _ _ => rfl)) (pe_ix ix_tup (pc1 G1 F1 hr (pa_cons (pv 0) (pa_cons (pv 1) (pa_cons (pe_ix ix_tup (pv 4) pe_int (fun _ _ => rfl)) pa_nil)))) pe_int (fun _ _ => rfl))) (pe_ix ix_tup (pv 0) pe_int (fun _ _ => rfl))) ip_add)))⟩
  (l_cons ⟨(ps_for PassesOwn.never rfl (pi_zip3 rfl T2.zip (pa_cons (pc1 G2 F2 hr1 (pa_cons (pv 0) (pa_cons (pe_ix ix_tup (pv 2) pe_int (fun _ _ => rfl)) pa_nil))) (pa_cons (pv 1) (pa_cons (pe_ix ix_tup (pv 0) pe_int (fun _ _ => rfl)) pa_nil)))) (pg_tup rfl (pgs_cons (pg_name (i := 5) scWorth.nd rfl (Or.inl rfl)) (pgs_cons (pg_name (i := 6) scWorth.nd rfl (Or.inl rfl)) (pgs_cons (pg_name (i := 7) scWorth.nd rfl (Or.inl rfl)) pgs_nil)))) (pss_one (ps_aug (i := 3) scWorth.nd rfl (Or.inl rfl) (pe_op op_sub (pe_op op_mul (pv 5) (pe_ifExp (pt_cmpR op_lt (pv 5) pe_int (nomark _)) (pe_ix ix_tup (pv 6) pe_int (fun _ _ => rfl)) (pe_ix ix_tup (pv 6) pe_int (fun _ _ => rfl)))) (pe_op op_mul (pe_ix ix_tup (pv 7) pe_int (fun _ _ => rfl)) (pe_ix ix_tup (pv 7) pe_int (fun _ _ => rfl)))) ip_add)))⟩
  (l_one ⟨(ps_ret (pv 3))⟩)))), ?_⟩
 refine ⟨_, rfl, p, _, _, _, rfl, rfl, SqT.of hp, atI_nat (j := 1) rfl, pr, rfl, ⟨_, SqT.of hpr⟩, ?_⟩
 refine for_tup (K := K) (xs := yr) (fun i σ H3 => Same H H3 ∧ ∃ v4 v5 v6 v7, σ = [some (.ref t), some (.ref pb), some (.ref p), some (.int (rowsW b bs (rows.take i))), v4, v5, v6, v7]) ⟨Same.refl H, none, none, none, none, rfl⟩ (fun i σ H3 _ ⟨S3, _⟩ => SqT.of (S3 _ _ hpr)) ?_ ?_
 ·rintro i y σ H3 hy3 ⟨S3, v4, v5, v6, v7, rfl⟩
  have hi : i < rows.length := by rw [← lr]; exact (List.getElem?_eq_some_iff.mp hy3).1
  obtain ⟨d, hd, dy⟩ := ry.get hy3
  rw [List.getElem?_map, gE hi] at hd
  cases hd
  obtain ⟨q, vw, rfl, hq, hw⟩ := row_of dy
  have ok := hok rows[i] (List.getElem_mem hi)
  have u1 := up_abs (b := b) (bs := bs) (ws := rows[i].2) b0 bu ok.few
  have p1 := ok.lo
  have p2 := ok.hi
  refine ⟨_, rfl, _, rfl, q, _, _, _, rfl, rfl, SqT.of (S3 _ _ hq), atI_nat (j := 0) rfl, _, rfl, _, rfl, _, rfl, q, _, _, _, rfl, rfl, SqT.of (S3 _ _ hq), atI_nat (j := 1) rfl, .ref t, .ref pb, vw, b, m, sp, bs, rows[i].2, rfl, hv.same S3, b0, b61, hb.same S3, hw.same S3, by rw [lb]; exact ok.inn, fun q5 H5 S5 h5 => ?_⟩
  refine ⟨q5, _, _, _, rfl, rfl, SqT.of h5, atI_nat (j := 0) rfl, _, _, rfl, rfl, .inl ⟨by show -(2 ^ 64) < rows[i].1; omega, by show rows[i].1 < 2 ^ 64; omega⟩, _, rfl, t, _, _, _, rfl, rfl, SqT.of (S5 _ _ (S3 _ _ ht)), atI_nat (j := 0) rfl, _, _, rfl, rfl, ⟨?_, ?_⟩, _, _, rfl, rfl, S3.trans S5, some (.ref q), v5, v6, v7, ?_⟩
  ·rw [Int.natAbs_mul]
   have h1 : rows[i].1.natAbs ≤ 10 ^ 12 := by omega
   exact Nat.lt_of_le_of_lt (Nat.mul_le_mul h1 u1) (by decide +kernel)
  ·exact Nat.lt_of_le_of_lt (by omega : b.natAbs ≤ 10 ^ 61) (by decide +kernel)
  ·unfold rowsW
   rw [sum_take _ hi]; rfl
 rintro σ H3 ⟨S3, v4, v5, v6, v7, rfl⟩
 rw [lr, List.take_length]
 have hrr : IsD H3 (.ref pr) (.tup (rows.map rowD)) := .tup (S3 _ _ hpr) (ry.same S3)
 refine ⟨_, rfl, _, rfl, p, _, _, _, rfl, rfl, SqT.of (S3 _ _ hp), atI_nat (j := 1) rfl, .ref t, pr, b, m, sp, rows, rfl, hv.same S3, few, hrr, hok, fun L H4 S4 hL => ?_⟩
 have S04 := S3.trans S4
 refine ⟨_, rfl, _, rfl, t, _, _, _, rfl, rfl, SqT.of (S04 _ _ ht), atI_nat (j := 2) rfl, ⟨true, L⟩, ⟨false, pb⟩, ⟨false, pn⟩, _, _, _, rfl, hL, S04 _ _ hpb, S04 _ _ hpn, ?_⟩
 have lo := own_len sp rows
 refine for_zip3 (c1 := ⟨true, L⟩) (c2 := ⟨false, pb⟩) (c3 := ⟨false, pn⟩) (xs := (ownM sp rows).map V.int) (ys := yb) (zs := ys) (fun i σ H5 => Same H4 H5 ∧ ∃ v4 v5 v6 v7, σ = [some (.ref t), some (.ref pb), some (.ref p), some (.int (rowsW b bs rows + ((List.range i).map (termW sp bs rows)).sum)), v4, v5, v6, v7]) ⟨Same.refl H4, v4, v5, v6, v7, by simp⟩ (fun i σ H5 _ ⟨S5, _⟩ => ⟨S5 _ _ hL, S5 _ _ (S04 _ _ hpb), S5 _ _ (S04 _ _ hpn)⟩) (by rw [List.length_map]; omega) (by rw [List.length_map]; omega) ?_ ?_
 ·rintro i x y z pz σ H5 hx hy5 hz ⟨S5, v4, v5, v6, v7, rfl⟩ hpz
  have hi : i < sp.length := by rw [← hl]; exact (List.getElem?_eq_some_iff.mp hz).1
  have hib : i < bs.length := by omega
  rw [List.getElem?_map, gE (by omega)] at hx
  cases hx
  obtain ⟨qb, e1, h1⟩ := rows_at rb (gE hib)
  rw [hy5] at e1
  cases e1
  obtain ⟨qz, e2, h2⟩ := hy i sp[i] (gE hi)
  rw [hz] at e2
  cases e2
  have eo : (ownM sp rows)[i] = owK sp rows i := by
   rw [← own_at hi hok, List.getD_eq_getElem?_getD, gE (by omega)]; rfl
  rw [eo]
  have S6 : Same H4 (upd H5 pz (.tup [.int (owK sp rows i), .ref qb, .ref qz])) := S5.put hpz
  have h6 : (upd H5 pz (.tup [.int (owK sp rows i), .ref qb, .ref qz])) pz = some (.tup [.int (owK sp rows i), .ref qb, .ref qz]) := upd_same
  generalize upd H5 pz (.tup [.int (owK sp rows i), .ref qb, .ref qz]) = H6 at S6 h6 ⊢
  have S06 := S04.trans S6
  have ob := owK_abs (k := i) hws hok lr41
  have wx := hws sp[i] (List.getElem_mem hi)
  have ew : wOf sp i = sp[i].w := by unfold wOf; rw [gE hi]
  have el : lOf sp i = sp[i].l := by unfold lOf; rw [gE hi]
  have eb : bs.getD i (0, 0) = bs[i] := by rw [List.getD_eq_getElem?_getD, gE hib]; rfl
  have et : termW sp bs rows i = owK sp rows i * (if owK sp rows i < 0 then bs[i].2 else bs[i].1) - sp[i].w * sp[i].l := by unfold termW; rw [ew, el, eb]
  refine ⟨pz, _, rfl, SqT.of h6, rfl, _, _, rfl, _, _, rfl, _, _, rfl, rfl, ?_⟩
  refine ⟨_, rfl, _, rfl, _, rfl, _, _, rfl, rfl, _, rfl, ?_⟩
  by_cases hneg : owK sp rows i < 0
  ·refine iteB (decide_eq_true hneg) ?_
   refine ⟨_, rfl, qb, _, _, _, rfl, rfl, SqT.of (S06 _ _ h1), atI_nat (j := 1) rfl, _, _, rfl, rfl, .inl ⟨by show -(2 ^ 64) < owK sp rows i; omega, by show owK sp rows i < 2 ^ 64; omega⟩, _, rfl, qz, _, _, _, rfl, rfl, SqT.of (S06 _ _ h2), atI_nat (j := 4) rfl, _, rfl, qz, _, _, _, rfl, rfl, SqT.of (S06 _ _ h2), atI_nat (j := 2) rfl, _, _, rfl, rfl, .inl ⟨by show -(2 ^ 64) < sp[i].w; omega, by show sp[i].w < 2 ^ 64; omega⟩, _, _, rfl, rfl, _, _, rfl, rfl, S6, v4, some (.int (owK sp rows i)), some (.ref qb), some (.ref qz), ?_⟩
   rw [sum_range, et, if_pos hneg, ← Int.add_assoc]; rfl
  ·refine iteC (decide_eq_false hneg) ?_
   refine ⟨_, rfl, qb, _, _, _, rfl, rfl, SqT.of (S06 _ _ h1), atI_nat (j := 0) rfl, _, _, rfl, rfl, .inl ⟨by show -(2 ^ 64) < owK sp rows i; omega, by show owK sp rows i < 2 ^ 64; omega⟩, _, rfl, qz, _, _, _, rfl, rfl, SqT.of (S06 _ _ h2), atI_nat (j := 4) rfl, _, rfl, qz, _, _, _, rfl, rfl, SqT.of (S06 _ _ h2), atI_nat (j := 2) rfl, _, _, rfl, rfl, .inl ⟨by show -(2 ^ 64) < sp[i].w; omega, by show sp[i].w < 2 ^ 64; omega⟩, _, _, rfl, rfl, _, _, rfl, rfl, S6, v4, some (.int (owK sp rows i)), some (.ref qb), some (.ref qz), ?_⟩
   rw [sum_range, et, if_neg hneg, ← Int.add_assoc]; rfl
 ·rintro σ H5 ⟨S5, v4, v5, v6, v7, rfl⟩
  refine ⟨_, rfl, ?_⟩
  have k1 := k H5 (S04.trans S5)
  unfold worthM at k1
  rw [List.length_map, lo]
  exact k1
end
end HN
namespace HN
open PySem L2 PyProof.Rows
abbrev sWhole : Stmt := top 1
abbrev sWithin : Stmt := top 2
section
variable {P : Program} {w : World} {K : PySem.W.Frag} {mg : Str → Option Value} {base : Heap}
theorem scWhole : FnScope ["thing"] ["thing"] (defScope sWhole) := ⟨rfl, rfl, rfl, by decide +kernel, rfl, by decide +kernel, by decide +kernel⟩
theorem ok_whole {f : Addr} {fd : FuncData} (F : Fun K "is_whole" "is_whole" sWhole f fd) (T : Nm mg) : FnOk P w K mg base CX0 1 f fd ["thing"] spWhole := by
 refine F.ok scWhole (fun vs H Q E h => by obtain ⟨v, rfl, _⟩ := h; rfl) (fun cdv A outer s H vs Q E hr h => ?_)
 obtain ⟨v, rfl, ⟨S, hS⟩, k⟩ := h
 refine ⟨_, pss_one (ps_ret (pe_and (pe_isInt T (pv 0)) (pe_one (pe_not (pe_isBool T (pv 0)))))), ?_⟩
 refine ⟨_, rfl, _, _, rfl, hS, _, rfl, ?_⟩
 refine ite2 (fun hc => ?_) (fun hc => ?_)
 ·refine ⟨_, rfl, _, _, rfl, hS, _, rfl, ?_⟩
  rw [sort_int hS hc]; exact k
 ·rw [← sort_noInt hS hc]; exact k
theorem scWithin : FnScope ["thing", "low", "high"] ["thing", "low", "high"] (defScope sWithin) := ⟨rfl, rfl, rfl, by decide +kernel, rfl, by decide +kernel, by decide +kernel⟩
theorem ok_within {f f1 : Addr} {fd fd1 : FuncData} (F : Fun K "is_within" "is_within" sWithin f fd) (T : Nm mg) (G1 : Fn K mg "is_whole" sWhole ["thing"] f1 fd1) : FnOk P w K mg base CX0 2 f fd ["thing", "low", "high"] spWithin := by
 have F1 : FnOk P w K mg base CX0 1 f1 fd1 ["thing"] spWhole := ok_whole G1.F T
 refine F.ok scWithin (fun vs H Q E h => by obtain ⟨v, lo, hi, rfl, _⟩ := h; rfl) (fun cdv A outer s H vs Q E hr h => ?_)
 obtain ⟨v, lo, hi, rfl, hS, k⟩ := h
 refine ⟨_, pss_one (ps_ret (pe_and (pc1 G1 F1 hr (pa_cons (pv 0) pa_nil)) (pe_one (pe_chain op_le op_le (pv 1) (pv 0) (pv 2))))), ?_⟩
 refine ⟨_, rfl, _, rfl, hS, _, rfl, ?_⟩
 refine ite2 (fun hc => ?_) (fun hc => ?_)
 ·obtain ⟨i, rfl⟩ := isI_of hc
  refine ⟨_, rfl, _, rfl, _, _, rfl, rfl, _, rfl, ?_⟩
  refine ite2 (fun h1 => ?_) (fun h1 => ?_)
  ·refine ⟨_, rfl, _, _, rfl, rfl, ?_⟩
   have e : inI (.int i) lo hi = decide (i ≤ hi) := by show (decide (lo ≤ i) && decide (i ≤ hi)) = _; rw [h1]; rfl
   show Q (.bl (decide (i ≤ hi))) H
   rw [← e]; exact k
  ·have e : inI (.int i) lo hi = false := by show (decide (lo ≤ i) && decide (i ≤ hi)) = _; rw [Bool.eq_false_iff.mpr h1]; rfl
   rw [← e]; exact k
 ·have e : inI v lo hi = false := by
   cases v with
   | int i => exact absurd rfl hc
   | _ => rfl
  rw [← e]; exact k
end
end HN
namespace HN
open PySem L2 PyProof.Rows
abbrev sFrom : Stmt := top 5
abbrev sTo : Stmt := top 6
section
variable {P : Program} {w : World} {K : PySem.W.Frag} {mg : Str → Option Value} {base : Heap}
theorem scFrom : FnScope ["net", "step", "span"] ["net", "step"] (defScope sFrom) := ⟨rfl, rfl, rfl, by decide +kernel, rfl, by decide +kernel, by decide +kernel⟩
theorem ok_from {f : Addr} {fd : FuncData} (F : Fun K "leads_from" "leads_from" sFrom f fd) : FnOk P w K mg base CX0 1 f fd ["net", "step"] spFrom := by
 refine F.ok scFrom (fun vs H Q E h => by obtain ⟨v, q, b, m, sp, s, x, rfl, _⟩ := h; rfl) (fun cdv A outer s0 H vs Q E hr h => ?_)
 obtain ⟨v, q, b, m, sp, s, x, rfl, hv, hq, hx, k⟩ := h
 obtain ⟨t, p, ys, rfl, ht, hp, hl, hy⟩ := netP_of hv
 obtain ⟨qx, hqx, hqx2⟩ := hy s.i x hx
 refine ⟨_, PSl.h (l_cons ⟨(ps_set (i := 2) scFrom.nd rfl (Or.inl rfl) (pe_ix ix_tup (pe_ix ix_tup (pv 0) pe_int (fun _ _ => rfl)) (pe_ix ix_tup (pv 1) pe_int (fun _ _ => rfl)) (fun _ _ => rfl)))⟩
  (l_one ⟨(ps_ret (pe_ifExp (pt_cmpR op_eq (pe_ix ix_tup (pv 1) pe_int (fun _ _ => rfl)) pe_int (nomark _)) (pe_ix ix_tup (pv 2) pe_int (fun _ _ => rfl)) (pe_ix ix_tup (pv 2) pe_int (fun _ _ => rfl))))⟩)), ?_⟩
 refine ⟨_, rfl, t, _, _, _, rfl, rfl, SqT.of ht, atI_nat (j := 2) rfl, _, rfl, q, _, _, _, rfl, rfl, SqT.of hq, atI_nat (j := 0) rfl, p, _, _, _, rfl, rfl, SqT.of hp, atI_nat (j := s.i) hqx, ?_⟩
 refine ⟨_, rfl, q, _, _, _, rfl, rfl, SqT.of hq, atI_nat (j := 1) rfl, rfl, _, rfl, ?_⟩
 refine ite2 (fun h1 => ?_) (fun h1 => ?_)
 ·have h1 : s.d = 1 := by have := of_decide_eq_true h1; injection this
  refine ⟨_, rfl, qx, _, _, _, rfl, rfl, SqT.of hqx2, atI_nat (j := 0) rfl, ?_⟩
  have e : frm x s.d = x.s := if_pos h1
  rw [← e]; exact k
 ·have h1 : s.d ≠ 1 := fun z => h1 (decide_eq_true (by rw [z]))
  refine ⟨_, rfl, qx, _, _, _, rfl, rfl, SqT.of hqx2, atI_nat (j := 1) rfl, ?_⟩
  have e : frm x s.d = x.g := if_neg h1
  rw [← e]; exact k
theorem scTo : FnScope ["net", "step", "span"] ["net", "step"] (defScope sTo) := ⟨rfl, rfl, rfl, by decide +kernel, rfl, by decide +kernel, by decide +kernel⟩
theorem ok_to {f : Addr} {fd : FuncData} (F : Fun K "leads_to" "leads_to" sTo f fd) : FnOk P w K mg base CX0 1 f fd ["net", "step"] spTo := by
 refine F.ok scTo (fun vs H Q E h => by obtain ⟨v, q, b, m, sp, s, x, rfl, _⟩ := h; rfl) (fun cdv A outer s0 H vs Q E hr h => ?_)
 obtain ⟨v, q, b, m, sp, s, x, rfl, hv, hq, hx, k⟩ := h
 obtain ⟨t, p, ys, rfl, ht, hp, hl, hy⟩ := netP_of hv
 obtain ⟨qx, hqx, hqx2⟩ := hy s.i x hx
 refine ⟨_, PSl.h (l_cons ⟨(ps_set (i := 2) scTo.nd rfl (Or.inl rfl) (pe_ix ix_tup (pe_ix ix_tup (pv 0) pe_int (fun _ _ => rfl)) (pe_ix ix_tup (pv 1) pe_int (fun _ _ => rfl)) (fun _ _ => rfl)))⟩
  (l_one ⟨(ps_ret (pe_ifExp (pt_cmpR op_eq (pe_ix ix_tup (pv 1) pe_int (fun _ _ => rfl)) pe_int (nomark _)) (pe_ix ix_tup (pv 2) pe_int (fun _ _ => rfl)) (pe_ix ix_tup (pv 2) pe_int (fun _ _ => rfl))))⟩)), ?_⟩
 refine ⟨_, rfl, t, _, _, _, rfl, rfl, SqT.of ht, atI_nat (j := 2) rfl, _, rfl, q, _, _, _, rfl, rfl, SqT.of hq, atI_nat (j := 0) rfl, p, _, _, _, rfl, rfl, SqT.of hp, atI_nat (j := s.i) hqx, ?_⟩
 refine ⟨_, rfl, q, _, _, _, rfl, rfl, SqT.of hq, atI_nat (j := 1) rfl, rfl, _, rfl, ?_⟩
 refine ite2 (fun h1 => ?_) (fun h1 => ?_)
 ·have h1 : s.d = 1 := by have := of_decide_eq_true h1; injection this
  refine ⟨_, rfl, qx, _, _, _, rfl, rfl, SqT.of hqx2, atI_nat (j := 1) rfl, ?_⟩
  have e : too x s.d = x.g := if_pos h1
  rw [← e]; exact k
 ·have h1 : s.d ≠ 1 := fun z => h1 (decide_eq_true (by rw [z]))
  refine ⟨_, rfl, qx, _, _, _, rfl, rfl, SqT.of hqx2, atI_nat (j := 0) rfl, ?_⟩
  have e : too x s.d = x.s := if_neg h1
  rw [← e]; exact k
end
end HN
namespace HN
open PySem L2 PyProof.Rows
abbrev sFirst : Stmt := top 9
section
variable {P : Program} {w : World} {K : PySem.W.Frag} {mg : Str → Option Value} {base : Heap}
theorem scFirst : FnScope ["net"] ["net"] (defScope sFirst) := ⟨rfl, rfl, rfl, by decide +kernel, rfl, by decide +kernel, by decide +kernel⟩
theorem ok_first {f : Addr} {fd : FuncData} (F : Fun K "first_bounds" "first_bounds" sFirst f fd) (T : Nm mg) : FnOk P w K mg base CX0 1 f fd ["net"] spFirst := by
 refine F.ok scFirst (fun vs H Q E h => by obtain ⟨v, b, m, sp, rfl, _⟩ := h; rfl) (fun cdv A outer s H vs Q E hr h => ?_)
 obtain ⟨v, b, m, sp, rfl, hv, few, k⟩ := h
 obtain ⟨t, p, ys, rfl, ht, hp, hl, hy⟩ := netP_of hv
 refine ⟨_, PSl.h (l_one ⟨(ps_ret (pe_callTy call_tupA rfl T.ttup boot_tuple (pa_cons (pe_comp (fr := []) (js := []) rfl (pi_tup (pe_ix ix_tup (pv 0) pe_int (fun _ _ => rfl))) (by decide +kernel) rfl (by decide +kernel) rfl (by show ∀ y : Str × NameKind, y ∈ _ → y.2 = NameKind.free → List.lookup y.1 (defScope sFirst).names = some NameKind.cell; decide +kernel) (by decide +kernel) rfl (by decide +kernel) (fun _ _ _ _ _ => ⟨(pe_tupA (pa_cons (pe_ix (r := rIxT K) ix_tup (pv 0) pe_int (fun _ _ => rfl)) (pa_cons (pe_ix (r := rIxT K) ix_tup (pv 0) pe_int (fun _ _ => rfl)) pa_nil))), pts_nil⟩)) pa_nil)))⟩), ?_⟩
 refine ⟨_, rfl, t, _, _, _, rfl, rfl, SqT.of ht, atI_nat (j := 2) rfl, p, rfl, ⟨_, SqT.of hp⟩, ?_⟩
 refine comp_tup (K := K) (a := p) (xs := ys) (fun i zs H2 => Same H H2 ∧ IsDs H2 zs (((sp.take i).map fun x => (x.l, x.o)).map fun x => .tup ((bndR x).map Dt.int))) ⟨Same.refl H, .nil⟩ (fun i zs H2 hi ⟨e1, e2⟩ => ?_) (by rw [hl]; exact small_le few) (fun i x zs H2 hx ⟨e1, e2⟩ => ?_) (fun zs H2 ⟨e1, e2⟩ D hD => ?_)
 ·refine ⟨SqT.of (e1 _ _ hp), ?_⟩
  rw [e2.length, List.length_map, List.length_map, List.length_take]; omega
 ·have hi : i < sp.length := by rw [← hl]; exact (List.getElem?_eq_some_iff.mp hx).1
  obtain ⟨q, hq, hq2⟩ := hy i sp[i] (gE hi)
  rw [hx] at hq
  cases hq
  have hq3 := e1 _ _ hq2
  refine tNoIf_go ?_
  refine ⟨_, rfl, q, _, _, _, rfl, rfl, SqT.of hq3, atI_nat (j := 2) rfl, _, rfl, q, _, _, _, rfl, rfl, SqT.of hq3, atI_nat (j := 3) rfl, (by show 2 ≤ sizeLine; decide), fun q4 H4 S4 h4 => ⟨e1.trans S4, ?_⟩⟩
  rw [List.take_add_one, gE hi, List.map_append, List.map_append]
  exact (e2.same S4).append (.cons (.tup h4 (IsDs.ints [sp[i].l, sp[i].o])) .nil)
 ·refine ⟨D, _, rfl, SqL.of upd_same, fun p3 H3 S3 h3 => ?_⟩
  have S23 := (Same.put (o := .lst zs) (Same.refl H2) hD).trans S3
  refine k (.ref p3) H3 (e1.trans S23) (.tup h3 ?_)
  rw [hl, List.take_length] at e2
  exact e2.same S23
end
end HN
namespace HN
open PySem L2 PyProof.Rows
abbrev sWithB : Stmt := top 21
abbrev sSides : Stmt := top 22
abbrev sLeavesIn : Stmt := top 23
theorem cutU {xs : List V} {i : Int} {n : Nat} (hi : i = (n : Int)) : cutV xs none (some i) = xs.take n := by
 unfold cutV
 subst hi
 have e := HT.sIx_nat xs.length xs.length n
 rw [e]
 show (xs.drop 0).take (min n xs.length - 0) = xs.take n
 rw [List.drop_zero, Nat.sub_zero]
 by_cases h : n ≤ xs.length
 ·rw [Nat.min_eq_left h]
 ·rw [Nat.min_eq_right (by omega), List.take_length, List.take_of_length_le (by omega)]
theorem cutF {xs : List V} {i : Int} {n : Nat} (hi : i = (n : Int)) : cutV xs (some i) none = xs.drop n := by
 unfold cutV
 subst hi
 have e := HT.sIx_nat xs.length 0 n
 rw [e]
 show (xs.drop (min n xs.length)).take (xs.length - min n xs.length) = xs.drop n
 by_cases h : n ≤ xs.length
 ·rw [Nat.min_eq_left h, List.take_of_length_le (by rw [List.length_drop]; omega)]
 ·rw [Nat.min_eq_right (by omega), List.drop_length, List.drop_of_length_le (by omega), List.take_nil]
def PlAt (H Hc : Hp) (y : V) (p : List (Int × Int) × Tq) : Prop := ∃ (q : Addr) (vb vd : V), y = .ref q ∧ Hc q = some (.tup [vb, vd]) ∧ IsD Hc vb (bndP p.1) ∧ IsD H vd (treeD p.2)
theorem PlAt.keep {H Hc Hd : Hp} {y : V} {p : List (Int × Int) × Tq} (h : PlAt H Hc y p) (e : TupK Hc Hd) : PlAt H Hd y p := by
 obtain ⟨q, vb, vd, a, b, c, d⟩ := h
 obtain ⟨pb, yb, rfl, hpb, _, rb⟩ := rows_of c
 exact ⟨q, _, vd, a, e _ _ b, .tup (e _ _ hpb) (rows_keep e rb), d⟩
inductive PlsAt (H Hc : Hp) : List V → List (List (Int × Int) × Tq) → Prop where
 | nil : PlsAt H Hc [] []
 | cons {y : V} {p : List (Int × Int) × Tq} {ys : List V} {ps : List (List (Int × Int) × Tq)} (h : PlAt H Hc y p) (r : PlsAt H Hc ys ps) : PlsAt H Hc (y :: ys) (p :: ps)
theorem PlsAt.keep {H Hc Hd : Hp} (e : TupK Hc Hd) : ∀ {ys : List V} {ps : List (List (Int × Int) × Tq)}, PlsAt H Hc ys ps → PlsAt H Hd ys ps
 | _, _, .nil => .nil
 | _, _, .cons h r => .cons (h.keep e) (PlsAt.keep e r)
theorem PlsAt.length {H Hc : Hp} : ∀ {ys : List V} {ps : List (List (Int × Int) × Tq)}, PlsAt H Hc ys ps → ys.length = ps.length
 | _, _, .nil => rfl
 | _, _, .cons _ r => by rw [List.length_cons, List.length_cons, r.length]
theorem PlsAt.data {H Hc : Hp} (e : Same H Hc) : ∀ {ys : List V} {ds : List (List (Int × Int) × Dt)}, PlsAt H Hc ys (ds.map fun p => (p.1, Tq.leaf p.2)) → IsDs Hc ys (ds.map plcD)
 | _, [], h => by cases h; exact .nil
 | _, d :: ds, h => by
  rw [List.map_cons] at h ⊢
  cases h with
  | cons h r =>
   obtain ⟨q, vb, vd, rfl, h2, h3, h4⟩ := h
   exact .cons (.tup h2 (.cons h3 (.cons (h4.same e) .nil))) (PlsAt.data e r)
theorem PlsAt.append {H Hc : Hp} : ∀ {ys zs : List V} {ps qs : List (List (Int × Int) × Tq)}, PlsAt H Hc ys ps → PlsAt H Hc zs qs → PlsAt H Hc (ys ++ zs) (ps ++ qs)
 | _, _, _, _, .nil, s => s
 | _, _, _, _, .cons h r, s => .cons h (PlsAt.append r s)
def lvsAll (ps : List (List (Int × Int) × Tq)) : List (List (Int × Int) × Dt) := (ps.map fun p => lvs p.2 p.1).flatten
def sizAll (ps : List (List (Int × Int) × Tq)) : Nat := (ps.map fun p => siz p.2).sum
structure LvJ (H Hc : Hp) (Ls Ah : Addr) (n : Nat) (st : List (List (Int × Int) × Tq)) (fo : List (List (Int × Int) × Dt)) : Prop where
 same : Same H Hc
 ls : ∃ ys, Hc Ls = some (.lst ys) ∧ PlsAt H Hc ys (fo.map fun p => (p.1, Tq.leaf p.2))
 ah : ∃ zs, Hc Ah = some (.lst zs.reverse) ∧ PlsAt H Hc zs st
 ok : ∀ p ∈ st, CutsOk p.2 p.1 ∧ p.1.length = n
section
variable {P : Program} {w : World} {K : PySem.W.Frag} {mg : Str → Option Value} {base : Heap}
theorem scWithB : FnScope ["bounds", "span", "low", "high"] ["bounds", "span", "low", "high"] (defScope sWithB) := ⟨rfl, rfl, rfl, by decide +kernel, rfl, by decide +kernel, by decide +kernel⟩
theorem ok_withB {f : Addr} {fd : FuncData} (F : Fun K "with_bound" "with_bound" sWithB f fd) : FnOk P w K mg base CX0 1 f fd ["bounds", "span", "low", "high"] spWithB := by
 refine F.ok scWithB (fun vs H Q E h => by obtain ⟨vb, k, lo, hi, bs, rfl, _⟩ := h; rfl) (fun cdv A outer s H vs Q E hr h => ?_)
 obtain ⟨vb, n, lo, hi, bs, rfl, hb, hn, few, k⟩ := h
 obtain ⟨pb, yb, rfl, hpb, hlb, rb⟩ := rows_of hb
 refine ⟨_, PSl.h (l_one ⟨(ps_ret (pe_op op_catA (pe_op op_catA (pe_slice sl_tupN (pv 0) po_none (po_some (pv 1))) (pe_tupA (pa_cons (pe_tupA (pa_cons (pv 2) (pa_cons (pv 3) pa_nil))) pa_nil))) (pe_slice sl_tupN (pv 0) (po_some (pe_op op_add (pv 1) pe_int)) po_none)))⟩), ?_⟩
 have lyb : yb.length ≤ 40 := by omega
 refine ⟨_, rfl, _, rfl, _, rfl, pb, _, rfl, hpb, fun qB HB SB hB => ⟨_, rfl, _, rfl, (by show 2 ≤ sizeLine; decide), fun q1 H1 S1 h1 => ⟨(by show 1 ≤ sizeLine; decide), fun qC HC SC hC => ?_⟩⟩⟩
 rw [cutU (n := n) rfl] at hB
 refine ⟨qB, qC, _, _, rfl, rfl, SC _ _ (S1 _ _ hB), hC, ?_, fun qD HD SD hD => ?_⟩
 ·rw [List.length_take]; exact Nat.le_trans (by show min n yb.length + 1 ≤ 1000; omega) (by decide)
 refine ⟨_, rfl, _, rfl, _, _, rfl, rfl, _, rfl, pb, _, rfl, SD _ _ (SC _ _ (S1 _ _ (SB _ _ hpb))), fun qE HE SE hE => ?_⟩
 rw [cutF (n := n + 1) (by omega)] at hE
 refine ⟨qD, qE, _, _, rfl, rfl, SE _ _ hD, hE, ?_, fun qF HF SF hF => ?_⟩
 ·rw [List.length_append, List.length_take, List.length_drop]; exact Nat.le_trans (by show min n yb.length + 1 + (yb.length - (n + 1)) ≤ 1000; omega) (by decide)
 have S1F : Same H1 HF := SC.trans (SD.trans (SE.trans SF))
 have SF' : Same H HF := SB.trans (S1.trans S1F)
 refine k (.ref qF) HF SF' (.tup hF ?_)
 have e : bs.set n (lo, hi) = bs.take n ++ [(lo, hi)] ++ bs.drop (n + 1) := by
  rw [List.set_eq_take_append_cons_drop, if_pos hn, List.append_assoc]; rfl
 rw [e, List.map_append, List.map_append, List.map_take, List.map_drop]
 exact ((IsDs.takeN n (rb.same SF')).append (.cons (.tup (S1F _ _ h1) (IsDs.ints [lo, hi])) .nil)).append (IsDs.dropN (n + 1) (rb.same SF'))
theorem scSides : FnScope ["bounds", "cut", "span", "at", "low", "high", "one", "other"] ["bounds", "cut"] (defScope sSides) := ⟨rfl, rfl, rfl, by decide +kernel, rfl, by decide +kernel, by decide +kernel⟩
theorem ok_sides {f f1 : Addr} {fd fd1 : FuncData} (F : Fun K "sides_of" "sides_of" sSides f fd) (G1 : Fn K mg "with_bound" sWithB ["bounds", "span", "low", "high"] f1 fd1) : FnOk P w K mg base CX0 2 f fd ["bounds", "cut"] spSides := by
 have F1 : FnOk P w K mg base CX0 1 f1 fd1 ["bounds", "span", "low", "high"] spWithB := ok_withB G1.F
 refine F.ok scSides (fun vs H Q E h => by obtain ⟨vb, c, bs, k, a, x3, x4, rfl, _⟩ := h; rfl) (fun cdv A outer s H vs Q E hr h => ?_)
 obtain ⟨vb, p, bs, n, a, x3, x4, rfl, hb, hp, hn, few, k⟩ := h
 obtain ⟨pb, yb, rfl, hpb, hlb, rb⟩ := rows_of hb
 obtain ⟨qn, hqn, hqn2⟩ := rows_at rb (gE hn)
 have e0 : bs.getD n (0, 0) = bs[n] := by rw [List.getD_eq_getElem?_getD, gE hn]; rfl
 have e1 : oneB bs n a = bs.set n (bs[n].1, a) := by unfold oneB; rw [e0]
 have e2 : otherB bs n a = bs.set n (a + 1, bs[n].2) := by unfold otherB; rw [e0]
 refine ⟨_, PSl.h (l_cons ⟨(ps_set (i := 2) scSides.nd rfl (Or.inl rfl) (pe_ix ix_tup (pv 1) pe_int (fun _ _ => rfl)))⟩
  (l_cons ⟨(ps_set (i := 3) scSides.nd rfl (Or.inl rfl) (pe_ix ix_tup (pv 1) pe_int (fun _ _ => rfl)))⟩
  (l_cons ⟨(ps_set (i := 4) scSides.nd rfl (Or.inl rfl) (pe_ix ix_tup (pe_ix ix_tup (pv 0) (pv 2) (fun _ _ => rfl)) pe_int (fun _ _ => rfl)))⟩
  (l_cons ⟨(ps_set (i := 5) scSides.nd rfl (Or.inl rfl) (pe_ix ix_tup (pe_ix ix_tup (pv 0) (pv 2) (fun _ _ => rfl)) pe_int (fun _ _ => rfl)))⟩
  (l_cons ⟨(ps_set (i := 6) scSides.nd rfl (Or.inl rfl) (pe_tupA (pa_cons (pc1 G1 F1 hr (pa_cons (pv 0) (pa_cons (pv 2) (pa_cons (pv 4) (pa_cons (pv 3) pa_nil))))) (pa_cons (pe_ix ix_tup (pv 1) pe_int (fun _ _ => rfl)) pa_nil))))⟩
  (l_cons ⟨(ps_set (i := 7) scSides.nd rfl (Or.inl rfl) (pe_tupA (pa_cons (pc1 G1 F1 hr (pa_cons (pv 0) (pa_cons (pv 2) (pa_cons (pe_op op_add (pv 3) pe_int) (pa_cons (pv 5) pa_nil))))) (pa_cons (pe_ix ix_tup (pv 1) pe_int (fun _ _ => rfl)) pa_nil))))⟩
  (l_one ⟨(ps_ret (pe_tupA (pa_cons (pv 6) (pa_cons (pv 7) pa_nil))))⟩))))))), ?_⟩
 refine ⟨_, rfl, p, _, _, _, rfl, rfl, SqT.of hp, atI_nat (j := 1) rfl, ?_⟩
 refine ⟨_, rfl, p, _, _, _, rfl, rfl, SqT.of hp, atI_nat (j := 2) rfl, ?_⟩
 refine ⟨_, rfl, _, rfl, pb, _, _, _, rfl, rfl, SqT.of hpb, atI_nat (j := n) hqn, qn, _, _, _, rfl, rfl, SqT.of hqn2, atI_nat (j := 0) rfl, ?_⟩
 refine ⟨_, rfl, _, rfl, pb, _, _, _, rfl, rfl, SqT.of hpb, atI_nat (j := n) hqn, qn, _, _, _, rfl, rfl, SqT.of hqn2, atI_nat (j := 1) rfl, ?_⟩
 refine ⟨_, rfl, _, rfl, _, rfl, _, rfl, .ref pb, n, bs[n].1, a, bs, rfl, hb, hn, few, fun u1 H1 S1 hu1 => ?_⟩
 refine ⟨_, rfl, p, _, _, _, rfl, rfl, SqT.of (S1 _ _ hp), atI_nat (j := 3) rfl, (by show 2 ≤ sizeLine; decide), fun q2 H2 S2 h2 => ?_⟩
 have S02 := S1.trans S2
 refine ⟨_, rfl, _, rfl, _, rfl, _, _, rfl, rfl, _, rfl, .ref pb, n, a + 1, bs[n].2, bs, rfl, hb.same S02, hn, few, fun u3 H3 S3 hu3 => ?_⟩
 refine ⟨_, rfl, p, _, _, _, rfl, rfl, SqT.of (S3 _ _ (S02 _ _ hp)), atI_nat (j := 4) rfl, (by show 2 ≤ sizeLine; decide), fun q4 H4 S4 h4 => ?_⟩
 refine ⟨_, rfl, _, rfl, (by show 2 ≤ sizeLine; decide), fun q5 H5 S5 h5 => ?_⟩
 have S15 : Same H2 H5 := S3.trans (S4.trans S5)
 refine k q5 q2 q4 u1 u3 H5 (S02.trans S15) h5 (S15 _ _ h2) ?_ (S5 _ _ h4) ?_
 ·rw [e1]; exact (hu1.same S2).same S15
 ·rw [e2]; exact (hu3.same S4).same S5
end
end HN
namespace HN
open PySem L2 PyProof.Rows
abbrev sStep : Stmt := top 4
abbrev sWay : Stmt := top 7
abbrev sRing : Stmt := top 8
theorem cut_one {xs : List V} : cutV xs (some 1) none = xs.drop 1 := by
 unfold cutV
 cases xs with
 | nil => rfl
 | cons x xs =>
  have e1 : HT.sIx (x :: xs).length 0 (some 1) = 1 := by
   have := HT.sIx_nat (x :: xs).length 0 1
   rw [show ((1 : Nat) : Int) = 1 from rfl] at this
   rw [this, List.length_cons]; omega
  rw [e1]
  show ((x :: xs).drop 1).take ((x :: xs).length - 1) = _
  rw [List.take_of_length_le (by simp)]
section
variable {P : Program} {w : World} {K : PySem.W.Frag} {mg : Str → Option Value} {base : Heap}
theorem scStep : FnScope ["net", "thing"] ["net", "thing"] (defScope sStep) := ⟨rfl, rfl, rfl, by decide +kernel, rfl, by decide +kernel, by decide +kernel⟩
theorem ok_step {f f1 f2 : Addr} {fd fd1 fd2 : FuncData} (F : Fun K "is_step" "is_step" sStep f fd) (T : Nm mg) (G1 : Fn K mg "is_within" sWithin ["thing", "low", "high"] f1 fd1) (G2 : Fn K mg "is_whole" sWhole ["thing"] f2 fd2) : FnOk P w K mg base CX0 3 f fd ["net", "thing"] spStep := by
 have F1 : FnOk P w K mg base CX0 2 f1 fd1 ["thing", "low", "high"] spWithin := ok_within G1.F T G2
 refine F.ok scStep (fun vs H Q E h => by obtain ⟨v, u, b, m, sp, d, rfl, _⟩ := h; rfl) (fun cdv A outer s H vs Q E hr h => ?_)
 obtain ⟨v, u, b, m, sp, d, rfl, hv, hd, k⟩ := h
 obtain ⟨t, pn, ys, rfl, ht, hpn, hl, hy⟩ := netP_of hv
 refine ⟨_, PSl.h (l_cons ⟨(ps_if (PW.pt (pw_or (pt_not (pt_val (pe_isTup T (pv 1)))) (pw_or1 (pt_cmpR op_ne (pe_callB call_len_seq rfl T.len PySem.boot_len (pa_cons (pv 1) pa_nil)) pe_int (nomark _))))) (pss_one (ps_ret pe_bl)) pss_nil)⟩
  (l_cons ⟨(ps_if (pt_not (pt_val (pc1 G1 F1 hr (pa_cons (pe_ix ix_tup (pv 1) pe_int (fun _ _ => rfl)) (pa_cons pe_int (pa_cons (pe_op op_sub (pe_callB call_len_seq rfl T.len PySem.boot_len (pa_cons (pe_ix ix_tup (pv 0) pe_int (fun _ _ => rfl)) pa_nil)) pe_int) pa_nil)))))) (pss_one (ps_ret pe_bl)) pss_nil)⟩
  (l_one ⟨(ps_ret (pe_and (pc1 G1 F1 hr (pa_cons (pe_ix ix_tup (pv 1) pe_int (fun _ _ => rfl)) (pa_cons (pe_un un_neg pe_int) (pa_cons pe_int pa_nil)))) (pe_one (pe_cmpR op_ne (pe_ix ix_tup (pv 1) pe_int (fun _ _ => rfl)) pe_int (nomark _)))))⟩))), ?_⟩
 by_cases hT : d.ty = "tuple"
 ·obtain ⟨ds, rfl⟩ : ∃ ds, d = .tup ds := by
   cases d with
   | tup ds => exact ⟨ds, rfl⟩
   | oth T => cases hd <;> simp [Dt.ty] at hT
   | _ => simp [Dt.ty] at hT
  obtain ⟨p, xs, rfl, hp, rx⟩ := hd.tup_of
  have lx := rx.length
  refine ⟨_, rfl, _, _, rfl, hd.tyn, _, rfl, iteC rfl ?_⟩
  refine ⟨_, rfl, p, _, rfl, .inr (SqT.of hp), rfl, _, rfl, ?_⟩
  by_cases h2 : ds.length = 2
  ·refine iteC (by rw [lx, h2]; rfl) ?_
   obtain ⟨d0, d1, rfl⟩ : ∃ a b, ds = [a, b] := by
    match ds, h2 with
    | [a, b], _ => exact ⟨a, b, rfl⟩
   cases rx with
   | cons r0 rr =>
    cases rr with
    | cons r1 rr =>
     cases rr
     rename_i x0 x1
     have e : stepB sp.length (.tup [d0, d1]) = (inD d0 0 ((sp.length : Int) - 1) && (inD d1 (-1) 1 && !(match d1 with | .int k => decide (k = 0) | _ => false))) := by
      unfold stepB
      cases d0 <;> cases d1 <;> first | rfl | skip
      all_goals try (simp [stepD, inD]; done)
      rename_i i j
      show (if 0 ≤ i ∧ i ≤ (sp.length : Int) - 1 ∧ (j = 1 ∨ j = -1) then some (⟨i.toNat, j⟩ : Stp) else none).isSome = ((decide (0 ≤ i) && decide (i ≤ (sp.length : Int) - 1)) && ((decide (-1 ≤ j) && decide (j ≤ 1)) && !decide (j = 0)))
      by_cases c1 : 0 ≤ i ∧ i ≤ (sp.length : Int) - 1 ∧ (j = 1 ∨ j = -1)
      ·rw [if_pos c1, decide_eq_true c1.1, decide_eq_true c1.2.1, decide_eq_true (by omega : -1 ≤ j), decide_eq_true (by omega : j ≤ 1), decide_eq_false (by omega : ¬ j = 0)]; rfl
      ·rw [if_neg c1]
       symm
       show _ = false
       rw [Bool.eq_false_iff]
       intro z
       simp only [Bool.and_eq_true, decide_eq_true_eq, Bool.not_eq_true', decide_eq_false_iff_not] at z
       exact c1 ⟨z.1.1, z.1.2, by omega⟩
     rw [e] at k
     refine ⟨_, rfl, p, _, _, _, rfl, rfl, SqT.of hp, atI_nat (j := 0) rfl, _, rfl, t, _, _, _, rfl, rfl, SqT.of ht, atI_nat (j := 2) rfl, pn, _, rfl, .inr (SqT.of hpn), _, _, rfl, rfl, x0, 0, _, rfl, ⟨_, r0.tyn⟩, _, rfl, ?_⟩
     rw [hl, inI_inD _ _ r0]
     cases q0 : inD d0 0 ((sp.length : Int) - 1) with
     | false => rw [q0] at k; exact iteT k
     | true =>
      rw [q0, Bool.true_and] at k
      refine iteF ?_
      refine ⟨_, rfl, p, _, _, _, rfl, rfl, SqT.of hp, atI_nat (j := 1) rfl, _, rfl, x1, -1, 1, rfl, ⟨_, r1.tyn⟩, _, rfl, ?_⟩
      rw [inI_inD _ _ r1]
      cases q1 : inD d1 (-1) 1 with
      | false => rw [q1] at k; exact iteF k
      | true =>
       rw [q1, Bool.true_and] at k
       obtain ⟨kk, rfl⟩ : ∃ kk, d1 = .int kk := by
        cases d1 with
        | int kk => exact ⟨kk, rfl⟩
        | _ => simp [inD] at q1
       have ex := r1.int_of
       subst ex
       refine iteT ⟨_, rfl, p, _, _, _, rfl, rfl, SqT.of hp, atI_nat (j := 1) rfl, rfl, ?_⟩
       have e3 : (!decide (V.int kk = V.int 0)) = !(decide (kk = 0)) := by
        congr 1
        exact decide_eq_decide.mpr ⟨fun z => by injection z, fun z => by rw [z]⟩
       rw [e3]; exact k
  ·refine iteB ?_ ?_
   ·rw [lx, decide_eq_false (fun z => h2 (by injection z with z; omega))]; rfl
   ·have e : stepB sp.length (.tup ds) = false := stepB_len h2
    rw [← e]; exact k
 ·refine ⟨_, rfl, _, _, rfl, hd.tyn, _, rfl, iteB ?_ ?_⟩
  ·have : (d.ty == "tuple") = false := by simpa using hT
   rw [this]; rfl
  ·have e : stepB sp.length d = false := by
    cases d with
    | tup ds => exact absurd rfl hT
    | _ => rfl
   rw [← e]; exact k
theorem scWay : FnScope ["net", "thing"] ["net", "thing"] (defScope sWay) := ⟨rfl, rfl, rfl, by decide +kernel, rfl, by decide +kernel, by decide +kernel⟩
theorem ok_way {f f1 f2 f3 : Addr} {fd fd1 fd2 fd3 : FuncData} (F : Fun K "is_way" "is_way" sWay f fd) (T : Nm mg) (T2 : Nt mg) (G1 : Fn K mg "is_step" sStep ["net", "thing"] f1 fd1) (F1 : FnOk P w K mg base CX0 3 f1 fd1 ["net", "thing"] spStep) (G2 : Fn K mg "leads_from" sFrom ["net", "step"] f2 fd2) (G3 : Fn K mg "leads_to" sTo ["net", "step"] f3 fd3) : FnOk P w K mg base CX0 4 f fd ["net", "thing"] spWayP := by
 have F2 : FnOk P w K mg base CX0 1 f2 fd2 ["net", "step"] spFrom := ok_from G2.F
 have F3 : FnOk P w K mg base CX0 1 f3 fd3 ["net", "step"] spTo := ok_to G3.F
 refine F.ok scWay (fun vs H Q E h => by obtain ⟨v, u, b, m, sp, d, rfl, _⟩ := h; rfl) (fun cdv A outer s H vs Q E hr h => ?_)
 obtain ⟨v, u, b, m, sp, d, rfl, hv, hd, fine, k⟩ := h
 have hr1 : Room 1 _ := hr.mono (by decide)
 refine ⟨_, PSl.h (l_cons ⟨(ps_if (PW.pt (pw_or (pt_not (pt_val (pe_isTup T (pv 1)))) (pw_or1 (pt_cmpR op_eq (pe_callB call_len_seq rfl T.len PySem.boot_len (pa_cons (pv 1) pa_nil)) pe_int (nomark _))))) (pss_one (ps_ret pe_bl)) pss_nil)⟩
  (l_cons ⟨(ps_if (pt_not (pt_val (pe_callB (call_all rfl) rfl T.all boot_all (pa_cons (pe_comp (fr := ["net"]) (js := [0]) rfl (pi_tup (pv 1)) (by decide +kernel) rfl (by decide +kernel) rfl (by show ∀ y : Str × NameKind, y ∈ _ → y.2 = NameKind.free → List.lookup y.1 (defScope sWay).names = some NameKind.cell; decide +kernel) (by decide +kernel) rfl (by decide +kernel) (fun _ _ _ _ _ => ⟨(pc1 G1 F1 hr (pa_cons (pv 1) (pa_cons (pv 0) pa_nil))), pts_nil⟩)) pa_nil)))) (pss_one (ps_ret pe_bl)) pss_nil)⟩
  (l_one ⟨(ps_ret (pe_callB (call_all rfl) rfl T.all boot_all (pa_cons (pe_compT (xs := ["one", "other"]) (fr := ["net"]) (js := [0]) rfl (pi_zipT rfl T2.zip (pa_cons (pv 1) (pa_cons (pe_slice sl_tupN (pv 1) (po_some pe_int) po_none) pa_nil))) (by decide +kernel) rfl (by decide +kernel) (by show ∀ y : Str × NameKind, y ∈ _ → y.2 = NameKind.free → List.lookup y.1 (defScope sWay).names = some NameKind.cell; decide +kernel) rfl (by decide +kernel) (fun _ _ _ _ _ => pg_two rfl (by decide +kernel) rfl rfl) (fun _ _ _ _ _ => ⟨(pe_cmpR op_eq (pc1 G3 F3 hr1 (pa_cons (pv 2) (pa_cons (pv 0) pa_nil))) (pc1 G2 F2 hr1 (pa_cons (pv 2) (pa_cons (pv 1) pa_nil))) (nomark _)), pts_nil⟩)) pa_nil)))⟩))), ?_⟩
 by_cases hT : d.ty = "tuple"
 ·obtain ⟨ds, rfl⟩ : ∃ ds, d = .tup ds := by
   cases d with
   | tup ds => exact ⟨ds, rfl⟩
   | oth T => cases hd <;> simp [Dt.ty] at hT
   | _ => simp [Dt.ty] at hT
  obtain ⟨p, xs, rfl, hp, rx⟩ := hd.tup_of
  have lx := rx.length
  have few := (fine ds rfl).1
  refine ⟨_, rfl, _, _, rfl, hd.tyn, _, rfl, iteC rfl ?_⟩
  refine ⟨_, rfl, p, _, rfl, .inr (SqT.of hp), rfl, _, rfl, ?_⟩
  by_cases h0 : ds = []
  ·refine iteB (by rw [lx, h0]; rfl) ?_
   have e : wayB sp (.tup ds) = false := by rw [h0]; rfl
   rw [← e]; exact k H (Same.refl H)
  refine iteC (by rw [lx, decide_eq_false (fun z => h0 (List.length_eq_zero_iff.mp (by injection z with z; omega)))]) ?_
  have e0 : ds.isEmpty = false := by cases ds with
   | nil => exact absurd rfl h0
   | cons _ _ => rfl
  refine ⟨_, rfl, p, rfl, ⟨_, SqT.of hp⟩, ?_⟩
  refine comp_tup (K := K) (a := p) (xs := xs) (fun i zs H2 => H2 = H ∧ zs = ((ds.take i).map (stepB sp.length)).map V.bl) ⟨rfl, rfl⟩ (fun i zs H2 hi ⟨e1, e2⟩ => ?_) (by rw [lx]; exact small_le few) (fun i x zs H2 hx ⟨e1, e2⟩ => ?_) (fun zs H2 ⟨e1, e2⟩ D hD => ?_)
  ·subst e1
   refine ⟨SqT.of hp, ?_⟩
   rw [e2, List.length_map, List.length_map, List.length_take]; omega
  ·subst e1
   obtain ⟨d', hd', dx⟩ := rx.get hx
   refine tNoIf_go ?_
   refine ⟨_, rfl, _, rfl, v, x, b, m, sp, d', rfl, hv, dx, rfl, ?_⟩
   rw [e2, List.take_add_one, hd', List.map_append, List.map_append]; rfl
  subst e1
  refine ⟨D, ds.map (stepB sp.length), rfl, SqL.of ?_, _, rfl, ?_⟩
  ·rw [upd_same, e2, lx, List.take_length]
  have eA : (ds.map (stepB sp.length)).all id = ds.all (stepB sp.length) := by rw [List.all_map]; rfl
  rw [eA]
  have S3 := Same.put (o := .lst zs) (Same.refl H2) hD
  generalize upd H2 D (.lst zs) = H3 at S3 ⊢
  cases qA : ds.all (stepB sp.length) with
  | false =>
   refine iteT ?_
   have e : wayB sp (.tup ds) = false := by
    show (!ds.isEmpty && (ds.all (stepB sp.length) && _)) = false
    rw [qA, Bool.false_and, Bool.and_false]
   rw [← e]; exact k H3 S3
  | true =>
   refine iteF ?_
   obtain ⟨ss, rfl, hs⟩ := all_steps ds qA
   have eW : wayB sp (.tup (rowsD Stp.row ss)) = zipB sp ss := by
    show (!(rowsD Stp.row ss).isEmpty && ((rowsD Stp.row ss).all (stepB sp.length) && zipB sp ((rowsD Stp.row ss).filterMap (stepD sp.length)))) = _
    rw [e0, (rows_steps ss hs).1, (rows_steps ss hs).2]; rfl
   rw [eW] at k
   have lxs : xs.length = ss.length := by rw [lx, List.length_map]
   refine ⟨_, rfl, _, rfl, _, rfl, p, _, rfl, S3 _ _ hp, fun p4 H4 S4 h4 => ?_⟩
   rw [cut_one] at h4
   have S24 := S3.trans S4
   refine ⟨p, p4, _, _, rfl, S24 _ _ hp, h4, ?_⟩
   refine compT_zip (K := K) (a := p) (b := p4) (xs := xs) (ys := xs.drop 1) (fun i zs H5 => Same H4 H5 ∧ zs = (((ss.zip ss.tail).take i).map fun q => decide (tooS sp q.1 = frmS sp q.2)).map V.bl) ⟨Same.refl _, rfl⟩ (fun i zs H5 hi ⟨e1, e2⟩ => ?_) (by rw [lx]; exact small_le few) (fun i x y zs p5 H5 hx hy ⟨e1, e2⟩ hp5 => ?_) (fun zs H5 ⟨e1, e2⟩ D5 hD5 => ?_)
   ·refine ⟨e1 _ _ (S24 _ _ hp), e1 _ _ h4, ?_⟩
    rw [e2, List.length_map, List.length_map, List.length_take]; omega
   ·have hi : i < ss.length := by rw [← lxs]; exact (List.getElem?_eq_some_iff.mp hx).1
    rw [List.getElem?_drop, Nat.add_comm] at hy
    have hi1 : i + 1 < ss.length := by rw [← lxs]; exact (List.getElem?_eq_some_iff.mp hy).1
    obtain ⟨q1, f1, g1⟩ := rows_at rx (gE hi)
    obtain ⟨q2, f2, g2⟩ := rows_at rx (gE hi1)
    rw [hx] at f1
    rw [hy] at f2
    cases f1
    cases f2
    have S5 := e1.put (o := .tup [.ref q1, .ref q2]) hp5
    have S25 := S24.trans S5
    obtain ⟨i1, d1⟩ := hs ss[i] (List.getElem_mem hi)
    obtain ⟨i2, d2⟩ := hs ss[i + 1] (List.getElem_mem hi1)
    refine tNoIf_go ?_
    refine ⟨_, rfl, _, rfl, v, q1, b, m, sp, ss[i], sp[ss[i].i], rfl, hv.same S25, S25 _ _ g1, gE i1, ?_⟩
    refine ⟨_, rfl, _, rfl, v, q2, b, m, sp, ss[i + 1], sp[ss[i + 1].i], rfl, hv.same S25, S25 _ _ g2, gE i2, rfl, S5, ?_⟩
    have hz : (ss.zip ss.tail)[i]? = some (ss[i], ss[i + 1]) := by
     rw [List.getElem?_zip_eq_some]
     exact ⟨gE hi, by rw [List.getElem?_tail]; exact gE hi1⟩
    have eb : decide (V.int (too sp[ss[i].i] ss[i].d) = V.int (frm sp[ss[i + 1].i] ss[i + 1].d)) = decide (tooS sp ss[i] = frmS sp ss[i + 1]) := by
     have u1 : tooS sp ss[i] = too sp[ss[i].i] ss[i].d := by unfold tooS; rw [gE i1]
     have u2 : frmS sp ss[i + 1] = frm sp[ss[i + 1].i] ss[i + 1].d := by unfold frmS; rw [gE i2]
     rw [u1, u2]
     exact decide_eq_decide.mpr ⟨fun z => by injection z, fun z => by rw [z]⟩
    rw [e2, eb, List.take_add_one, hz, List.map_append, List.map_append]; rfl
   ·refine ⟨D5, (ss.zip ss.tail).map fun q => decide (tooS sp q.1 = frmS sp q.2), rfl, SqL.of ?_, ?_⟩
    ·rw [upd_same, e2, List.take_of_length_le (by rw [List.length_zip, List.length_tail, List.length_drop]; omega)]
    ·have e : ((ss.zip ss.tail).map fun q => decide (tooS sp q.1 = frmS sp q.2)).all id = zipB sp ss := by rw [List.all_map]; rfl
     rw [e]; exact k _ (S24.trans (e1.put hD5))
 ·refine ⟨_, rfl, _, _, rfl, hd.tyn, _, rfl, iteB ?_ ?_⟩
  ·have : (d.ty == "tuple") = false := by simpa using hT
   rw [this]; rfl
  ·have e : wayB sp d = false := by
    cases d with
    | tup ds => exact absurd rfl hT
    | _ => rfl
   rw [← e]; exact k H (Same.refl H)
theorem scRing : FnScope ["net", "thing"] ["net", "thing"] (defScope sRing) := ⟨rfl, rfl, rfl, by decide +kernel, rfl, by decide +kernel, by decide +kernel⟩
theorem ok_ring {f f1 f2 f3 : Addr} {fd fd1 fd2 fd3 : FuncData} (F : Fun K "is_ring" "is_ring" sRing f fd) (T : Nm mg) (T3 : N3 mg) (G1 : Fn K mg "is_way" sWay ["net", "thing"] f1 fd1) (F1 : FnOk P w K mg base CX0 4 f1 fd1 ["net", "thing"] spWayP) (G2 : Fn K mg "leads_from" sFrom ["net", "step"] f2 fd2) (G3 : Fn K mg "leads_to" sTo ["net", "step"] f3 fd3) : FnOk P w K mg base CX0 5 f fd ["net", "thing"] spRingP := by
 have F2 : FnOk P w K mg base CX0 1 f2 fd2 ["net", "step"] spFrom := ok_from G2.F
 have F3 : FnOk P w K mg base CX0 1 f3 fd3 ["net", "step"] spTo := ok_to G3.F
 refine F.ok scRing (fun vs H Q E h => by obtain ⟨v, u, b, m, sp, d, rfl, _⟩ := h; rfl) (fun cdv A outer s H vs Q E hr h => ?_)
 obtain ⟨v, u, b, m, sp, d, rfl, hv, hd, fine, k⟩ := h
 have hr1 : Room 1 _ := hr.mono (by decide)
 refine ⟨_, PSl.h (l_cons ⟨(ps_if (PW.pt (pw_or (pt_not (pt_val (pc1 G1 F1 hr (pa_cons (pv 0) (pa_cons (pv 1) pa_nil))))) (pw_or1 (pt_cmpR op_lt (pe_callB call_len_seq rfl T.len PySem.boot_len (pa_cons (pv 1) pa_nil)) pe_int (nomark _))))) (pss_one (ps_ret pe_bl)) pss_nil)⟩
  (l_cons ⟨(ps_if (pt_cmpR op_ne (pe_callB call_lenS rfl T.len PySem.boot_len (pa_cons (pe_callTy (call_setL rfl) rfl T3.tset boot_set (pa_cons (pe_comp (fr := []) (js := []) rfl (pi_tup (pv 1)) (by decide +kernel) rfl (by decide +kernel) rfl (by show ∀ y : Str × NameKind, y ∈ _ → y.2 = NameKind.free → List.lookup y.1 (defScope sRing).names = some NameKind.cell; decide +kernel) (by decide +kernel) rfl (by decide +kernel) (fun _ _ _ _ _ => ⟨(pe_ix (r := rIxT K) ix_tup (pv 0) pe_int (fun _ _ => rfl)), pts_nil⟩)) pa_nil)) pa_nil)) (pe_callB call_len_seq rfl T.len PySem.boot_len (pa_cons (pv 1) pa_nil)) (nomark _)) (pss_one (ps_ret pe_bl)) pss_nil)⟩
  (l_one ⟨(ps_ret (pe_cmpR op_eq (pc1 G2 F2 hr1 (pa_cons (pv 0) (pa_cons (pe_ix ix_tup (pv 1) pe_int (fun _ _ => rfl)) pa_nil))) (pc1 G3 F3 hr1 (pa_cons (pv 0) (pa_cons (pe_ix ix_tup (pv 1) (pe_un un_neg pe_int) (fun _ _ => rfl)) pa_nil))) (nomark _)))⟩))), ?_⟩
 refine ⟨_, rfl, _, rfl, v, u, b, m, sp, d, rfl, hv, hd, fine, fun H1 S1 => ?_⟩
 refine ⟨_, rfl, ?_⟩
 cases qW : wayB sp d with
 | false =>
  refine iteT ?_
  have e : ringB sp d = false := by
   cases d with
   | tup ds => show (wayB sp (.tup ds) && _) = false; rw [qW]; rfl
   | _ => rfl
  rw [← e]; exact k H1 S1
 | true =>
  refine iteF ?_
  obtain ⟨ds, rfl⟩ : ∃ ds, d = .tup ds := by
   cases d with
   | tup ds => exact ⟨ds, rfl⟩
   | _ => simp [wayB] at qW
  obtain ⟨p, xs, rfl, hp, rx⟩ := hd.tup_of
  have lx := rx.length
  have few := (fine ds rfl).1
  have qA : ds.all (stepB sp.length) = true := by
   have : (!ds.isEmpty && (ds.all (stepB sp.length) && zipB sp (ds.filterMap (stepD sp.length)))) = true := qW
   simp only [Bool.and_eq_true] at this
   exact this.2.1
  have q0 : ds ≠ [] := fun z => by rw [z] at qW; simp [wayB] at qW
  obtain ⟨ss, rfl, hs⟩ := all_steps ds qA
  have eR : ringB sp (.tup (rowsD Stp.row ss)) = ringOf sp ss := by
   show (wayB sp (.tup (rowsD Stp.row ss)) && ringOf sp ((rowsD Stp.row ss).filterMap (stepD sp.length))) = _
   rw [qW, (rows_steps ss hs).1]; rfl
  rw [eR] at k
  have lxs : xs.length = ss.length := by rw [lx, List.length_map]
  have few : ss.length ≤ 1000 := by rw [List.length_map] at few; exact few
  have hpos : 0 < ss.length := by
   cases ss with
   | nil => exact absurd rfl q0
   | cons _ _ => simp
  refine ⟨_, rfl, p, _, rfl, .inr (SqT.of (S1 _ _ hp)), _, _, rfl, rfl, _, rfl, ?_⟩
  by_cases h2 : 2 ≤ ss.length
  rotate_left
  ·refine iteB (by rw [lxs]; exact decide_eq_true (by omega)) ?_
   have e : ringOf sp ss = false := by unfold ringOf; rw [decide_eq_false h2]; rfl
   rw [← e]; exact k H1 S1
  refine iteC (by rw [lxs]; exact decide_eq_false (by omega)) ?_
  refine ⟨_, rfl, p, rfl, ⟨_, SqT.of (S1 _ _ hp)⟩, ?_⟩
  refine comp_tup (K := K) (a := p) (xs := xs) (fun i zs H2 => H2 = H1 ∧ zs = (numsS (ss.take i)).map V.int) ⟨rfl, rfl⟩ (fun i zs H2 hi ⟨e1, e2⟩ => ?_) (by rw [lxs]; exact small_le few) (fun i x zs H2 hx ⟨e1, e2⟩ => ?_) (fun zs H2 ⟨e1, e2⟩ D hD => ?_)
  ·subst e1
   refine ⟨SqT.of (S1 _ _ hp), ?_⟩
   rw [e2, List.length_map]; unfold numsS; rw [List.length_map, List.length_take]; omega
  ·subst e1
   have hi : i < ss.length := by rw [← lxs]; exact (List.getElem?_eq_some_iff.mp hx).1
   obtain ⟨q1, f1, g1⟩ := rows_at rx (gE hi)
   rw [hx] at f1
   cases f1
   refine tNoIf_go ?_
   refine ⟨_, rfl, q1, _, _, _, rfl, rfl, SqT.of (S1 _ _ g1), atI_nat (j := 0) rfl, rfl, ?_⟩
   rw [e2, numsS_take hi, List.map_append]; rfl
  subst e1
  have e3 : zs = (numsS ss).map V.int := by rw [e2, lxs, List.take_length]
  subst e3
  refine ⟨D, numsS ss, rfl, SqL.of upd_same, by unfold numsS; rw [List.length_map]; exact few, fun p4 H4 S4 h4 => ?_⟩
  have S14 : Same H2 H4 := (Same.put (Same.refl H2) hD).trans S4
  have SH4 := S1.trans S14
  refine ⟨p4, _, _, rfl, h4, ?_⟩
  refine ⟨_, rfl, p, _, rfl, .inr (SqT.of (SH4 _ _ hp)), rfl, _, rfl, ?_⟩
  by_cases h3 : (metL (numsS ss)).length = ss.length
  rotate_left
  ·refine iteB (by rw [lxs, decide_eq_false (fun z => h3 (by injection z with z; omega))]; rfl) ?_
   have e : ringOf sp ss = false := by unfold ringOf; rw [decide_eq_false h3, Bool.false_and, Bool.and_false]
   rw [← e]; exact k H4 SH4
  refine iteC (by rw [lxs, decide_eq_true (by rw [h3])]; rfl) ?_
  have e1 : ss[0]? = some ss[0] := gE hpos
  have e2 : ss[ss.length - 1]? = some ss[ss.length - 1] := gE (by omega)
  obtain ⟨i1, d1⟩ := hs ss[0] (List.getElem_mem _)
  obtain ⟨i2, d2⟩ := hs ss[ss.length - 1] (List.getElem_mem _)
  have eF : fstB sp ss = frm sp[ss[0].i] ss[0].d := by unfold fstB; rw [e1]; show frmS sp ss[0] = _; unfold frmS; rw [gE i1]
  have eL : lstB sp ss = too sp[ss[ss.length - 1].i] ss[ss.length - 1].d := by unfold lstB; rw [e2]; show tooS sp ss[ss.length - 1] = _; unfold tooS; rw [gE i2]
  obtain ⟨q1, f1, g1⟩ := rows_at rx e1
  obtain ⟨q2, f2, g2⟩ := rows_at rx e2
  refine ⟨_, rfl, _, rfl, p, _, _, _, rfl, rfl, SqT.of (SH4 _ _ hp), atI_nat (j := 0) f1, v, q1, b, m, sp, ss[0], sp[ss[0].i], rfl, hv.same SH4, SH4 _ _ g1, gE i1, ?_⟩
  refine ⟨_, rfl, _, rfl, _, rfl, p, _, _, _, rfl, rfl, SqT.of (SH4 _ _ hp), atI_last (by rw [lxs]; exact f2), v, q2, b, m, sp, ss[ss.length - 1], sp[ss[ss.length - 1].i], rfl, hv.same SH4, SH4 _ _ g2, gE i2, rfl, ?_⟩
  have eq : decide (V.int (frm sp[ss[0].i] ss[0].d) = V.int (too sp[ss[ss.length - 1].i] ss[ss.length - 1].d)) = ringOf sp ss := by
   unfold ringOf
   rw [decide_eq_true h2, decide_eq_true h3, Bool.true_and, Bool.true_and, eF, eL]
   exact decide_eq_decide.mpr ⟨fun z => by injection z, fun z => by rw [z]⟩
  rw [eq]; exact k H4 SH4
end
end HN
namespace HN
open PySem L2 PyProof.Rows
abbrev sHeaded : Stmt := top 17
abbrev sCut : Stmt := top 18
abbrev sRowT : Stmt := top 19
abbrev sLeafT : Stmt := top 20
section
variable {P : Program} {w : World} {K : PySem.W.Frag} {mg : Str → Option Value} {base : Heap}
theorem scHeaded : FnScope ["thing", "word", "many"] ["thing", "word", "many"] (defScope sHeaded) := ⟨rfl, rfl, rfl, by decide +kernel, rfl, by decide +kernel, by decide +kernel⟩
theorem ok_headed {f : Addr} {fd : FuncData} (F : Fun K "is_headed" "is_headed" sHeaded f fd) (T : Nm mg) (TS : mg "str" = none) : FnOk P w K mg base CX0 1 f fd ["thing", "word", "many"] spHeaded := by
 refine F.ok scHeaded (fun vs H Q E h => by obtain ⟨u, z, n, d, rfl, _⟩ := h; rfl) (fun cdv A outer s H vs Q E hr h => ?_)
 obtain ⟨u, z, n, d, rfl, hd, hn, k⟩ := h
 refine ⟨_, PSl.h (l_one ⟨(ps_ret (pe_and (pe_isTup T (pv 0)) (pe_and (pe_cmpR op_eq (pe_callB call_len_seq rfl T.len PySem.boot_len (pa_cons (pv 0) pa_nil)) (pv 2) (nomark _)) (pe_and (pe_isStrT T TS (pe_ix ix_tup (pv 0) pe_int (fun _ _ => rfl))) (pe_one (pe_cmpR op_eq (pe_ix ix_tup (pv 0) pe_int (fun _ _ => rfl)) (pv 1) (nomark _)))))))⟩), ?_⟩
 refine ⟨_, rfl, _, _, rfl, hd.tyn, _, rfl, ?_⟩
 by_cases hT : (d.ty == "tuple") = true
 rotate_left
 ·refine iteC (Bool.eq_false_iff.mpr hT) ?_
  rw [head_no hd hT] at k
  exact k
 refine iteB hT ?_
 obtain ⟨ds, rfl⟩ := ty_tup hd hT
 obtain ⟨p, xs, rfl, hp, rx⟩ := hd.tup_of
 have lx := rx.length
 refine ⟨_, rfl, p, _, rfl, .inr (SqT.of hp), _, rfl, rfl, _, rfl, ?_⟩
 have e1 : decide (V.int (xs.length : Int) = V.int n) = decide ((ds.length : Int) = n) := decide_eq_decide.mpr ⟨fun q => by injection q with q; omega, fun q => by rw [← q, lx]⟩
 rw [e1]
 by_cases h1 : (ds.length : Int) = n
 rotate_left
 ·refine iteC (decide_eq_false h1) ?_
  have e : headB z n (.tup ds) = false := by
   show (decide ((ds.length : Int) = n) && _) = _
   rw [decide_eq_false h1]; rfl
  rw [e] at k
  exact k
 refine iteB (decide_eq_true h1) ?_
 cases rx with
 | nil => exfalso; simp at h1; omega
 | cons r0 rr =>
  rename_i x0 d0 xr dr
  have e2 : headB z n (.tup (d0 :: dr)) = (match d0 with | Dt.str x => decide (x = z) | _ => false) := by
   show (decide (((d0 :: dr).length : Int) = n) && (match (some d0 : Option Dt) with | some (Dt.str x) => decide (x = z) | _ => false)) = _
   rw [decide_eq_true h1]
   cases d0 <;> rfl
  rw [e2] at k
  refine ⟨_, rfl, p, _, _, _, rfl, rfl, SqT.of hp, atI_nat (j := 0) rfl, _, _, rfl, r0.tyn, _, rfl, ?_⟩
  by_cases h2 : (d0.ty == "str") = true
  ·refine iteB h2 ?_
   obtain ⟨x, rfl⟩ := ty_str r0 h2
   cases r0
   refine ⟨_, rfl, p, _, _, _, rfl, rfl, SqT.of hp, atI_nat (j := 0) rfl, _, rfl, rfl, ?_⟩
   have e3 : decide (V.str x = V.str z) = decide (x = z) := decide_eq_decide.mpr ⟨fun q => by injection q, fun q => by rw [q]⟩
   rw [e3]
   exact k
  ·refine iteC (Bool.eq_false_iff.mpr h2) ?_
   have e3 : headB z n (.tup (d0 :: dr)) = false := by
    rw [e2]
    cases d0 with
    | str x => exact absurd rfl h2
    | _ => rfl
   rw [← e2, e3] at k
   exact k
theorem scCut : FnScope ["bounds", "thing", "bound"] ["bounds", "thing"] (defScope sCut) := ⟨rfl, rfl, rfl, by decide +kernel, rfl, by decide +kernel, by decide +kernel⟩
theorem ok_cut {f f1 f2 f3 : Addr} {fd fd1 fd2 fd3 : FuncData} (F : Fun K "is_cut" "is_cut" sCut f fd) (T : Nm mg) (TS : mg "str" = none) (G1 : Fn K mg "is_headed" sHeaded ["thing", "word", "many"] f1 fd1) (G2 : Fn K mg "is_within" sWithin ["thing", "low", "high"] f2 fd2) (G3 : Fn K mg "is_whole" sWhole ["thing"] f3 fd3) : FnOk P w K mg base CX0 3 f fd ["bounds", "thing"] spCut := by
 have F1 : FnOk P w K mg base CX0 1 f1 fd1 ["thing", "word", "many"] spHeaded := ok_headed G1.F T TS
 have F2 : FnOk P w K mg base CX0 2 f2 fd2 ["thing", "low", "high"] spWithin := ok_within G2.F T G3
 refine F.ok scCut (fun vs H Q E h => by obtain ⟨vb, u, bs, d, rfl, _⟩ := h; rfl) (fun cdv A outer s H vs Q E hr h => ?_)
 obtain ⟨vb, u, bs, d, rfl, hb, hd, k⟩ := h
 obtain ⟨pb, yb, rfl, hpb, hlb, rb⟩ := rows_of hb
 have hr1 : Room 1 _ := hr.mono (by decide)
 refine ⟨_, PSl.h (l_cons ⟨(ps_if (PW.pt (pw_or (pt_not (pt_val (pc1 G1 F1 hr1 (pa_cons (pv 1) (pa_cons pe_str (pa_cons pe_int pa_nil)))))) (pw_or1 (pt_not (pt_val (pc1 G2 F2 hr (pa_cons (pe_ix ix_tup (pv 1) pe_int (fun _ _ => rfl)) (pa_cons pe_int (pa_cons (pe_op op_sub (pe_callB call_len_seq rfl T.len PySem.boot_len (pa_cons (pv 0) pa_nil)) pe_int) pa_nil))))))))) (pss_one (ps_ret pe_bl)) pss_nil)⟩
  (l_cons ⟨(ps_set (i := 2) scCut.nd rfl (Or.inl rfl) (pe_ix ix_tup (pv 0) (pe_ix ix_tup (pv 1) pe_int (fun _ _ => rfl)) (fun _ _ => rfl)))⟩
  (l_one ⟨(ps_ret (pc1 G2 F2 hr (pa_cons (pe_ix ix_tup (pv 1) pe_int (fun _ _ => rfl)) (pa_cons (pe_ix ix_tup (pv 2) pe_int (fun _ _ => rfl)) (pa_cons (pe_op op_sub (pe_ix ix_tup (pv 2) pe_int (fun _ _ => rfl)) pe_int) pa_nil)))))⟩))), ?_⟩
 refine ⟨_, rfl, u, "cut", 5, d, rfl, hd, by decide, _, rfl, ?_⟩
 by_cases h1 : headB "cut" 5 d = true
 rotate_left
 ·refine iteB (by rw [Bool.eq_false_iff.mpr h1]; rfl) ?_
  have e : cutB bs d = false := by
   unfold cutB
   split
   ·rename_i z i a x y
    by_cases q : z = "cut"
    ·exact absurd (by rw [q]; rfl) h1
    ·rw [decide_eq_false q]; rfl
   ·rfl
  rw [e] at k
  exact k
 refine iteC (by rw [h1]; rfl) ?_
 obtain ⟨ds, rfl, hl5, h0⟩ := head_of (n := 5) h1
 obtain ⟨d0, d1, d2, d3, d4, rfl⟩ : ∃ a b c e g, ds = [a, b, c, e, g] := by
  match ds, hl5 with
  | [a, b, c, e, g], _ => exact ⟨a, b, c, e, g, rfl⟩
 have h0 : d0 = .str "cut" := by simpa using h0
 subst h0
 obtain ⟨p, xs, rfl, hp, rx⟩ := hd.tup_of
 cases rx with
 | cons r0 rr => cases rr with
  | cons r1 rr => cases rr with
   | cons r2 rr => cases rr with
    | cons r3 rr => cases rr with
     | cons r4 rr =>
      cases rr
      cases r0
      rename_i x1 x2 x3 x4
      refine ⟨_, rfl, p, _, _, _, rfl, rfl, SqT.of hp, atI_nat (j := 1) rfl, _, rfl, pb, _, rfl, .inr (SqT.of hpb), _, _, rfl, rfl, x1, 0, _, rfl, ⟨_, r1.tyn⟩, _, rfl, ?_⟩
      rw [inI_inD _ _ r1]
      by_cases h2 : inD d1 0 ((yb.length : Int) - 1) = true
      rotate_left
      ·refine iteB (by rw [Bool.eq_false_iff.mpr h2]; rfl) ?_
       have e : cutB bs (.tup [.str "cut", d1, d2, d3, d4]) = false := by
        cases d1 with
        | int i =>
         show (decide (("cut" : Str) = "cut") && (decide (0 ≤ i) && decide (i ≤ (bs.length : Int) - 1)) && _) = false
         have h2 : (decide (0 ≤ i) && decide (i ≤ (yb.length : Int) - 1)) = false := Bool.eq_false_iff.mpr h2
         rw [hlb] at h2
         rw [h2, Bool.and_false, Bool.false_and]
        | _ => rfl
       rw [e] at k
       exact k
      refine iteC (by rw [h2]; rfl) ?_
      cases d1 with
      | int i =>
       have h2 : (decide (0 ≤ i) && decide (i ≤ (yb.length : Int) - 1)) = true := h2
       rw [Bool.and_eq_true] at h2
       obtain ⟨i0, i1⟩ := h2
       have i0 := of_decide_eq_true i0
       have i1 := of_decide_eq_true i1
       cases r1
       obtain ⟨n, rfl⟩ := Int.eq_ofNat_of_zero_le i0
       have hn : n < bs.length := by omega
       obtain ⟨qn, hqn, hqn2⟩ := rows_at rb (gE hn)
       refine ⟨_, rfl, _, rfl, p, _, _, _, rfl, rfl, SqT.of hp, atI_nat (j := 1) rfl, pb, _, _, _, rfl, rfl, SqT.of hpb, atI_nat (j := n) hqn, ?_⟩
       refine ⟨_, rfl, p, _, _, _, rfl, rfl, SqT.of hp, atI_nat (j := 2) rfl, _, rfl, qn, _, _, _, rfl, rfl, SqT.of hqn2, atI_nat (j := 0) rfl, _, rfl, qn, _, _, _, rfl, rfl, SqT.of hqn2, atI_nat (j := 1) rfl, _, _, rfl, rfl, x2, _, _, rfl, ⟨_, r2.tyn⟩, ?_⟩
       rw [inI_inD _ _ r2]
       have e : cutB bs (.tup [.str "cut", .int ((n : Nat) : Int), d2, d3, d4]) = inD d2 bs[n].1 (bs[n].2 - 1) := by
        show (decide (("cut" : Str) = "cut") && (decide ((0 : Int) ≤ (n : Nat)) && decide (((n : Nat) : Int) ≤ (bs.length : Int) - 1)) && (match bs[((n : Nat) : Int).toNat]? with | some p => inD d2 p.1 (p.2 - 1) | none => false)) = _
        have e2 : bs[((n : Nat) : Int).toNat]? = some bs[n] := by rw [Int.toNat_natCast, gE hn]
        rw [e2, decide_eq_true rfl, decide_eq_true (by omega), decide_eq_true (by omega)]; rfl
       rw [e] at k
       exact k
      | _ => cases h2
theorem scRowT : FnScope ["net", "thing"] ["net", "thing"] (defScope sRowT) := ⟨rfl, rfl, rfl, by decide +kernel, rfl, by decide +kernel, by decide +kernel⟩
theorem ok_rowT {f f1 f2 : Addr} {fd fd1 fd2 : FuncData} (F : Fun K "is_row" "is_row" sRowT f fd) (T : Nm mg) (G1 : Fn K mg "is_whole" sWhole ["thing"] f1 fd1) (G2 : Fn K mg "is_ring" sRing ["net", "thing"] f2 fd2) (F2 : FnOk P w K mg base CX0 5 f2 fd2 ["net", "thing"] spRingP) : FnOk P w K mg base CX0 6 f fd ["net", "thing"] spRowT := by
 have F1 : FnOk P w K mg base CX0 1 f1 fd1 ["thing"] spWhole := ok_whole G1.F T
 refine F.ok scRowT (fun vs H Q E h => by obtain ⟨v, u, b, m, sp, d, rfl, _⟩ := h; rfl) (fun cdv A outer s H vs Q E hr h => ?_)
 obtain ⟨v, u, b, m, sp, d, rfl, hv, hd, hf, k⟩ := h
 have hr1 : Room 1 _ := hr.mono (by decide)
 refine ⟨_, PSl.h (l_one ⟨(ps_ret (pe_and (pe_isTup T (pv 1)) (pe_and (pe_cmpR op_eq (pe_callB call_len_seq rfl T.len PySem.boot_len (pa_cons (pv 1) pa_nil)) pe_int (nomark _)) (pe_and (pc1 G1 F1 hr1 (pa_cons (pe_ix ix_tup (pv 1) pe_int (fun _ _ => rfl)) pa_nil)) (pe_one (pc1 G2 F2 hr (pa_cons (pv 0) (pa_cons (pe_ix ix_tup (pv 1) pe_int (fun _ _ => rfl)) pa_nil))))))))⟩), ?_⟩
 refine ⟨_, rfl, _, _, rfl, hd.tyn, _, rfl, ?_⟩
 by_cases hT : (d.ty == "tuple") = true
 rotate_left
 ·refine iteC (Bool.eq_false_iff.mpr hT) ?_
  have e : rowB sp d = false := by
   cases d with
   | tup ds => exact absurd rfl hT
   | _ => rfl
  have k1 := k H (Same.refl H)
  rw [e] at k1
  exact k1
 refine iteB hT ?_
 obtain ⟨ds, rfl⟩ := ty_tup hd hT
 obtain ⟨p, xs, rfl, hp, rx⟩ := hd.tup_of
 have lx := rx.length
 refine ⟨_, rfl, p, _, rfl, .inr (SqT.of hp), rfl, _, rfl, ?_⟩
 by_cases h2 : ds.length = 2
 rotate_left
 ·refine iteC (decide_eq_false fun q => h2 (by injection q with q; omega)) ?_
  have e : rowB sp (.tup ds) = false := by
   unfold rowB
   split
   ·rename_i e; injection e with e; rw [e] at h2; exact absurd rfl h2
   ·rfl
  have k1 := k H (Same.refl H)
  rw [e] at k1
  exact k1
 refine iteB (decide_eq_true (by rw [lx, h2]; rfl)) ?_
 obtain ⟨d0, d1, rfl⟩ : ∃ a b, ds = [a, b] := by
  match ds, h2 with
  | [a, b], _ => exact ⟨a, b, rfl⟩
 cases rx with
 | cons r0 rr => cases rr with
  | cons r1 rr =>
   cases rr
   rename_i x0 x1
   refine ⟨_, rfl, p, _, _, _, rfl, rfl, SqT.of hp, atI_nat (j := 0) rfl, x0, rfl, ⟨_, r0.tyn⟩, _, rfl, ?_⟩
   by_cases h3 : isI x0 = true
   rotate_left
   ·refine iteC (Bool.eq_false_iff.mpr h3) ?_
    have e : rowB sp (.tup [d0, d1]) = false := by
     cases r0 with
     | int i => exact absurd rfl h3
     | _ => rfl
    have k1 := k H (Same.refl H)
    rw [e] at k1
    exact k1
   refine iteB h3 ?_
   obtain ⟨i, rfl⟩ := isI_of h3
   cases r0
   exact ⟨_, rfl, _, rfl, p, _, _, _, rfl, rfl, SqT.of hp, atI_nat (j := 1) rfl, v, x1, b, m, sp, d1, rfl, hv, r1, hf _ _ rfl, fun H' S' => k H' S'⟩
theorem scLeafT : FnScope ["net", "thing", "rows"] ["net", "thing"] (defScope sLeafT) := ⟨rfl, rfl, rfl, by decide +kernel, rfl, by decide +kernel, by decide +kernel⟩
theorem ok_leafT {f f1 f2 f3 f4 : Addr} {fd fd1 fd2 fd3 fd4 : FuncData} (F : Fun K "is_leaf" "is_leaf" sLeafT f fd) (T : Nm mg) (TS : mg "str" = none) (CR : ∃ t, mg "MOST_ROWS" = some (.int 40 t)) (G1 : Fn K mg "is_headed" sHeaded ["thing", "word", "many"] f1 fd1) (G2 : Fn K mg "is_ring" sRing ["net", "thing"] f2 fd2) (F2 : FnOk P w K mg base CX0 5 f2 fd2 ["net", "thing"] spRingP) (G3 : Fn K mg "is_row" sRowT ["net", "thing"] f3 fd3) (G4 : Fn K mg "is_whole" sWhole ["thing"] f4 fd4) : FnOk P w K mg base CX0 7 f fd ["net", "thing"] spLeafT := by
 have F1 : FnOk P w K mg base CX0 1 f1 fd1 ["thing", "word", "many"] spHeaded := ok_headed G1.F T TS
 have F3 : FnOk P w K mg base CX0 6 f3 fd3 ["net", "thing"] spRowT := ok_rowT G3.F T G4 G2 F2
 refine F.ok scLeafT (fun vs H Q E h => by obtain ⟨v, u, b, m, sp, d, rfl, _⟩ := h; rfl) (fun cdv A outer s H vs Q E hr h => ?_)
 obtain ⟨v, u, b, m, sp, d, rfl, hv, hd, hf, k⟩ := h
 have hr1 : Room 1 _ := hr.mono (by decide)
 have hr5 : Room 5 _ := hr.mono (by decide)
 refine ⟨_, PSl.h (l_cons ⟨(ps_if (pt_val (pc1 G1 F1 hr1 (pa_cons (pv 1) (pa_cons pe_str (pa_cons pe_int pa_nil))))) (pss_one (ps_ret (pc1 G2 F2 hr5 (pa_cons (pv 0) (pa_cons (pe_ix ix_tup (pv 1) pe_int (fun _ _ => rfl)) pa_nil))))) pss_nil)⟩
  (l_cons ⟨(ps_if (pt_not (pt_val (pc1 G1 F1 hr1 (pa_cons (pv 1) (pa_cons pe_str (pa_cons pe_int pa_nil)))))) (pss_one (ps_ret pe_bl)) pss_nil)⟩
  (l_cons ⟨(ps_set (i := 2) scLeafT.nd rfl (Or.inl rfl) (pe_ix ix_tup (pv 1) pe_int (fun _ _ => rfl)))⟩
  (l_cons ⟨(ps_if (PW.pt (pw_or (pt_not (pt_val (pe_isTup T (pv 2)))) (pw_or1 (pt_cmpR op_gt (pe_callB call_len_seq rfl T.len PySem.boot_len (pa_cons (pv 2) pa_nil)) (pe_gint CR) (nomark _))))) (pss_one (ps_ret pe_bl)) pss_nil)⟩
  (l_one ⟨(ps_ret (pe_callB (call_all rfl) rfl T.all boot_all (pa_cons (pe_comp (fr := ["net"]) (js := [0]) rfl (pi_tup (pv 2)) (by decide +kernel) rfl (by decide +kernel) rfl (by show ∀ y : Str × NameKind, y ∈ _ → y.2 = NameKind.free → List.lookup y.1 (defScope sLeafT).names = some NameKind.cell; decide +kernel) (by decide +kernel) rfl (by decide +kernel) (fun _ _ _ _ _ => ⟨(pc1 G3 F3 hr (pa_cons (pv 1) (pa_cons (pv 0) pa_nil))), pts_nil⟩)) pa_nil)))⟩))))), ?_⟩
 have two : ∀ z : Str, headB z 2 d = true → ∃ d1, d = .tup [.str z, d1] := fun z hz => by
  obtain ⟨ds, rfl, hl2, h0⟩ := head_of (n := 2) hz
  obtain ⟨d0, d1, rfl⟩ : ∃ a b, ds = [a, b] := by
   match ds, hl2 with
   | [a, b], _ => exact ⟨a, b, rfl⟩
  have h0 : d0 = .str z := by simpa using h0
  exact ⟨d1, by rw [h0]⟩
 refine ⟨_, rfl, u, "ring", 2, d, rfl, hd, by decide, _, rfl, ?_⟩
 by_cases h1 : headB "ring" 2 d = true
 ·refine iteB h1 ?_
  obtain ⟨d1, rfl⟩ := two _ h1
  obtain ⟨p, xs, rfl, hp, rx⟩ := hd.tup_of
  cases rx with
  | cons r0 rr => cases rr with
   | cons r1 rr =>
    cases rr
    rename_i x0 x1
    exact ⟨_, rfl, _, rfl, p, _, _, _, rfl, rfl, SqT.of hp, atI_nat (j := 1) rfl, v, x1, b, m, sp, d1, rfl, hv, r1, (hf _ _ rfl).1, fun H' S' => k H' S'⟩
 refine iteC (Bool.eq_false_iff.mpr h1) ?_
 refine ⟨_, rfl, u, "price", 2, d, rfl, hd, by decide, _, rfl, ?_⟩
 by_cases h2 : headB "price" 2 d = true
 rotate_left
 ·refine iteB (by rw [Bool.eq_false_iff.mpr h2]; rfl) ?_
  have e : leafB sp d = false := by
   unfold leafB
   split
   ·rename_i z x
    by_cases q : z = "ring"
    ·exact absurd (by rw [q]; rfl) h1
    ·by_cases q2 : z = "price"
     ·exact absurd (by rw [q2]; rfl) h2
     ·rw [if_neg q, if_neg q2]
   ·rfl
  have k1 := k H (Same.refl H)
  rw [e] at k1
  exact k1
 refine iteC (by rw [h2]; rfl) ?_
 obtain ⟨d1, rfl⟩ := two _ h2
 obtain ⟨p, xs, rfl, hp, rx⟩ := hd.tup_of
 cases rx with
 | cons r0 rr => cases rr with
  | cons r1 rr =>
   cases rr
   rename_i x0 x1
   have e : leafB sp (.tup [.str "price", d1]) = rowsB sp d1 := by
    show (if ("price" : Str) = "ring" then ringB sp d1 else if ("price" : Str) = "price" then rowsB sp d1 else false) = _
    rw [if_neg (by decide), if_pos rfl]
   rw [e] at k
   refine ⟨_, rfl, p, _, _, _, rfl, rfl, SqT.of hp, atI_nat (j := 1) rfl, ?_⟩
   refine ⟨_, rfl, _, _, rfl, r1.tyn, _, rfl, ?_⟩
   by_cases hT : (d1.ty == "tuple") = true
   rotate_left
   ·refine iteB (by rw [Bool.eq_false_iff.mpr hT]; rfl) ?_
    have e2 : rowsB sp d1 = false := by
     cases d1 with
     | tup ds => exact absurd rfl hT
     | _ => rfl
    have k1 := k H (Same.refl H)
    rw [e2] at k1
    exact k1
   refine iteC (by rw [hT]; rfl) ?_
   obtain ⟨rows, rfl⟩ := ty_tup r1 hT
   obtain ⟨q, ys, rfl, hq, ry⟩ := r1.tup_of
   have ly := ry.length
   have k : ∀ H', Same H H' → Q (.bl (decide (rows.length ≤ 40) && rows.all (rowB sp))) H' := k
   refine ⟨_, rfl, q, _, rfl, .inr (SqT.of hq), _, _, rfl, rfl, _, rfl, ?_⟩
   by_cases h40 : rows.length ≤ 40
   rotate_left
   ·refine iteB (decide_eq_true (by show (ys.length : Int) > 40; omega)) ?_
    have k1 := k H (Same.refl H)
    rw [decide_eq_false h40] at k1
    exact k1
   refine iteC (decide_eq_false (by show ¬ (ys.length : Int) > 40; omega)) ?_
   rw [decide_eq_true h40] at k
   refine ⟨_, rfl, q, rfl, ⟨_, SqT.of hq⟩, ?_⟩
   refine comp_tup (K := K) (a := q) (xs := ys) (fun i zs H2 => Same H H2 ∧ zs = ((rows.take i).map (rowB sp)).map V.bl) ⟨Same.refl H, rfl⟩ (fun i zs H2 hi ⟨e1, e2⟩ => ?_) (by rw [ly]; exact small_le (by omega)) (fun i x zs H2 hx ⟨e1, e2⟩ => ?_) (fun zs H2 ⟨e1, e2⟩ D hD => ?_)
   ·refine ⟨SqT.of (e1 _ _ hq), ?_⟩
    rw [e2, List.length_map, List.length_map, List.length_take]; omega
   ·have hi : i < rows.length := by rw [← ly]; exact (List.getElem?_eq_some_iff.mp hx).1
    obtain ⟨d', hd', dx⟩ := ry.get hx
    rw [gE hi] at hd'
    cases hd'
    refine tNoIf_go ?_
    refine ⟨_, rfl, _, rfl, v, x, b, m, sp, rows[i], rfl, hv.same e1, dx.same e1, fun p' y' e => (hf _ _ rfl).2 _ rfl _ (List.getElem_mem hi) p' y' e, fun H' S' => ⟨e1.trans S', ?_⟩⟩
    rw [e2, List.take_add_one, gE hi, List.map_append, List.map_append]; rfl
   ·refine ⟨D, rows.map (rowB sp), rfl, SqL.of ?_, ?_⟩
    ·rw [upd_same, e2, ly, List.take_length]
    have eA : (rows.map (rowB sp)).all id = rows.all (rowB sp) := by rw [List.all_map]; rfl
    rw [eA]
    exact k _ (e1.put hD)
end
end HN
namespace HN
open PySem L2 PyProof.Rows
theorem LvJ.grow {H Hc Hd : Hp} {Ls Ah : Addr} {n : Nat} {st : List (List (Int × Int) × Tq)} {fo : List (List (Int × Int) × Dt)} (j : LvJ H Hc Ls Ah n st fo) (e : Same Hc Hd) : LvJ H Hd Ls Ah n st fo := by
 obtain ⟨ys, h1, h2⟩ := j.ls
 obtain ⟨zs, h3, h4⟩ := j.ah
 exact ⟨j.same.trans e, ⟨ys, e _ _ h1, h2.keep (Same.tupK e)⟩, ⟨zs, e _ _ h3, h4.keep (Same.tupK e)⟩, j.ok⟩
theorem same_up {H Hc : Hp} {a : Addr} {o : HO} (e : Same H Hc) (h : H a = none) : Same H (upd Hc a o) := fun b u q => by
 rw [upd_ne (fun z => by rw [z, h] at q; cases q)]
 exact e b u q
theorem siz_pos (t : Tq) : 1 ≤ siz t := by
 cases t with
 | leaf d => exact Nat.le_refl _
 | cut k a x y => show 1 ≤ siz x + siz y + 1; omega
theorem sizAll_le : ∀ (st : List (List (Int × Int) × Tq)), st.length ≤ sizAll st
 | [] => Nat.le_refl _
 | p :: st => by
  show st.length + 1 ≤ siz p.2 + sizAll st
  have := siz_pos p.2
  have := sizAll_le st
  omega
theorem rowsPk {α : Type} {f : α → List Int} {H H' : Hp} {v : V} {xs : List α} (e : TupK H H') (h : IsD H v (rowsP f xs)) : IsD H' v (rowsP f xs) := by
 obtain ⟨p, ys, rfl, hp, _, r⟩ := rows_of h
 exact .tup (e _ _ hp) (rows_keep e r)
theorem allP {sp : List Sn} {fo : List (List (Int × Int) × Dt)} {p : List (Int × Int) × Dt} (h : fo.all (fun p => leafB sp p.2) = true) (hp : leafB sp p.2 = true) : (fo ++ [p]).all (fun p => leafB sp p.2) = true := by
 rw [List.all_append, h]; simp [hp]
section
variable {P : Program} {w : World} {K : PySem.W.Frag} {mg : Str → Option Value} {base : Heap}
theorem scLeavesIn : FnScope ["net", "thing", "leaves", "ahead", "place", "sides"] ["net", "thing"] (defScope sLeavesIn) := ⟨rfl, rfl, rfl, by decide +kernel, rfl, by decide +kernel, by decide +kernel⟩
theorem ok_leavesIn {f f1 f2 f3 f4 : Addr} {fd fd1 fd2 fd3 fd4 : FuncData} (F : Fun K "leaves_in" "leaves_in" sLeavesIn f fd) (T : Nm mg) (CL : ∃ t, mg "MOST_LEAVES_WALKED" = some (.int 20000 t))
  (G1 : Fn K mg "first_bounds" sFirst ["net"] f1 fd1) (F1 : FnOk P w K mg base CX0 1 f1 fd1 ["net"] spFirst)
  (G2 : Fn K mg "is_cut" sCut ["bounds", "thing"] f2 fd2) (F2 : FnOk P w K mg base CX0 3 f2 fd2 ["bounds", "thing"] spCut)
  (G3 : Fn K mg "sides_of" sSides ["bounds", "cut"] f3 fd3) (F3 : FnOk P w K mg base CX0 2 f3 fd3 ["bounds", "cut"] spSides)
  (G4 : Fn K mg "is_leaf" sLeafT ["net", "thing"] f4 fd4) (F4 : FnOk P w K mg base CX0 7 f4 fd4 ["net", "thing"] spLeafT) : FnOk P w K mg base CX0 8 f fd ["net", "thing"] spLeavesIn := by
 refine F.ok scLeavesIn (fun vs H Q E h => by obtain ⟨v, u, b, m, sp, t, rfl, _⟩ := h; rfl) (fun cdv A outer s H vs Q E hr h => ?_)
 obtain ⟨v, u, b, m, sp, t, rfl, hv, hu, few, ok, hsz, k⟩ := h
 have hr1 : Room 1 _ := hr.mono (by decide)
 have hr2 : Room 2 _ := hr.mono (by decide)
 have hr3 : Room 3 _ := hr.mono (by decide)
 refine ⟨_, PSl.h (l_cons ⟨(ps_set (i := 2) scLeavesIn.nd rfl (Or.inl rfl) (pe_lst pa_nil))⟩
  (l_cons ⟨(ps_set (i := 3) scLeavesIn.nd rfl (Or.inl rfl) (pe_lst (pa_cons (pe_tupA (pa_cons (pc1 G1 F1 hr1 (pa_cons (pv 0) pa_nil)) (pa_cons (pv 1) pa_nil))) pa_nil)))⟩
  (l_cons ⟨(ps_while PassesOwn.never (pt_cmpR op_gt (pe_callB call_len_seq rfl T.len PySem.boot_len (pa_cons (pv 3) pa_nil)) pe_int (nomark _)) (PSl.h (l_cons ⟨(ps_set (i := 4) scLeavesIn.nd rfl (Or.inl rfl) (pe_bm0 PySem.F.plainAttrs_list PySem.F.slot_list_pop PySem.F.type_list_pop mt_pop (pv 3)))⟩
  (l_one ⟨(ps_if (pt_val (pc1 G2 F2 hr3 (pa_cons (pe_ix ix_tup (pv 4) pe_int (fun _ _ => rfl)) (pa_cons (pe_ix ix_tup (pv 4) pe_int (fun _ _ => rfl)) pa_nil)))) (PSl.h (l_cons ⟨(ps_set (i := 5) scLeavesIn.nd rfl (Or.inl rfl) (pc1 G3 F3 hr2 (pa_cons (pe_ix ix_tup (pv 4) pe_int (fun _ _ => rfl)) (pa_cons (pe_ix ix_tup (pv 4) pe_int (fun _ _ => rfl)) pa_nil))))⟩
  (l_cons ⟨(ps_expr (pe_bm PySem.F.plainAttrs_list PySem.F.slot_list_append PySem.F.type_list_append mt_append (pv 3) (pa_cons (pe_ix ix_tup (pv 5) pe_int (fun _ _ => rfl)) pa_nil)))⟩
  (l_one ⟨(ps_expr (pe_bm PySem.F.plainAttrs_list PySem.F.slot_list_append PySem.F.type_list_append mt_append (pv 3) (pa_cons (pe_ix ix_tup (pv 5) pe_int (fun _ _ => rfl)) pa_nil)))⟩)))) (pss_one (ps_if (PW.pt (pw_and (pt_val (pc1 G4 F4 hr (pa_cons (pv 0) (pa_cons (pe_ix ix_tup (pv 4) pe_int (fun _ _ => rfl)) pa_nil)))) (pw_and1 (pt_cmpR op_lt (pe_callB call_len_seq rfl T.len PySem.boot_len (pa_cons (pv 2) pa_nil)) (pe_gint CL) (nomark _))))) (pss_one (ps_expr (pe_bm PySem.F.plainAttrs_list PySem.F.slot_list_append PySem.F.type_list_append mt_append (pv 2) (pa_cons (pv 4) pa_nil)))) (pss_one (ps_ret pe_non)))))⟩))))⟩
  (l_one ⟨(ps_ret (pv 2))⟩)))), ?_⟩
 refine ⟨Nat.zero_le _, fun Ls hLs => ?_⟩
 have S1 : Same H (upd H Ls (.lst [])) := Same.put (Same.refl H) hLs
 have h1 : (upd H Ls (.lst [])) Ls = some (.lst []) := upd_same
 generalize upd H Ls (.lst []) = H1 at S1 h1 ⊢
 refine ⟨_, rfl, v, b, m, sp, rfl, hv.same S1, by omega, fun ub H2 S2 hub => ⟨_, rfl, (by show 2 ≤ sizeLine; decide), fun q3 H3 S3 h3 => ⟨(by show 1 ≤ sizeLine; decide), fun Ah hAh => ?_⟩⟩⟩
 have S13 := S1.trans (S2.trans S3)
 have nLA : Ls ≠ Ah := fun z => by rw [← z, S3 _ _ (S2 _ _ h1)] at hAh; cases hAh
 have hAhH : H Ah = none := by
  cases z : H Ah with
  | none => rfl
  | some o => rw [S13 _ _ z] at hAh; cases hAh
 have S4 : Same H3 (upd H3 Ah (.lst [.ref q3])) := Same.put (Same.refl H3) hAh
 have h4 : (upd H3 Ah (.lst [.ref q3])) Ah = some (.lst [.ref q3]) := upd_same
 generalize upd H3 Ah (.lst [.ref q3]) = H4 at S4 h4 ⊢
 obtain ⟨bs0, hbs0⟩ : ∃ bs0, bs0 = sp.map fun x => (x.l, x.o) := ⟨_, rfl⟩
 rw [← hbs0] at ok k hub
 have lb0 : bs0.length = sp.length := by rw [hbs0, List.length_map]
 have J4 : LvJ H H4 Ls Ah sp.length [(bs0, t)] [] := ⟨S13.trans S4, ⟨[], S4 _ _ (S3 _ _ (S2 _ _ h1)), .nil⟩, ⟨[.ref q3], h4, .cons ⟨q3, ub, u, rfl, S4 _ _ h3, (hub.same S3).same S4, hu⟩ .nil⟩, fun p hp => by rw [List.mem_singleton.mp hp]; exact ⟨ok, lb0⟩⟩
 refine ⟨fun n σ Hc => ∃ (st : List (List (Int × Int) × Tq)) (fo : List (List (Int × Int) × Dt)) (v4 v5 : Option V), n = sizAll st ∧ σ = [some v, some u, some (.ref Ls), some (.ref Ah), v4, v5] ∧ LvJ H Hc Ls Ah sp.length st fo ∧ fo ++ lvsAll st = lvs t bs0 ∧ fo.all (fun p => leafB sp p.2) = true ∧ fo.length + sizAll st ≤ 2000, ⟨_, _, _, none, none, rfl, rfl, J4, by show [] ++ (lvs t bs0 ++ []) = _; simp, rfl, by show 0 + (siz t + 0) ≤ 2000; omega⟩, ?_⟩
 clear J4 h4 S4 h3 hub S13 S3 S2 h1 S1 hAh
 rintro n σ Hc ⟨st, fo, v4, v5, rfl, rfl, J, hl, hall, hmx⟩
 obtain ⟨zs, hz, pz⟩ := J.ah
 refine ⟨_, rfl, Ah, _, rfl, .inl (SqL.of hz), _, _, rfl, rfl, _, rfl, ?_⟩
 cases pz with
 | nil =>
  refine iteC (by rfl) ?_
  obtain ⟨ys, hy, py⟩ := J.ls
  have e : fo = lvs t bs0 := by rw [← hl]; show fo = fo ++ []; simp
  refine ⟨_, rfl, k (.ref Ls) Hc J.same ?_⟩
  rw [← e, if_pos hall]
  exact ⟨Ls, ys, rfl, hLs, hy, py.data J.same⟩
 | cons h r =>
  rename_i y p zs st
  refine iteB (decide_eq_true (by rw [List.length_reverse, List.length_cons]; show ((zs.length + 1 : Nat) : Int) > 0; omega)) ?_
  refine ⟨_, fun σ' H' z => z, ?_⟩
  rw [List.reverse_cons] at hz
  refine ⟨_, rfl, .inl ⟨rfl, _, SqL.of hz⟩, Ah, _, y, rfl, rfl, hz, by rw [List.length_append, List.getElem?_append_right (by simp)]; simp, ?_⟩
  rw [List.dropLast_concat]
  obtain ⟨q, vb, vd, rfl, hq, hvb, hvd⟩ := h
  have K5 : TupK Hc (upd Hc Ah (.lst zs.reverse)) := tupK_upd hz
  have q5 := K5 _ _ hq
  have vb5 : IsD (upd Hc Ah (.lst zs.reverse)) vb (bndP p.1) := by
   obtain ⟨pb, yb, rfl, hpb, _, rb⟩ := rows_of hvb
   exact .tup (K5 _ _ hpb) (rows_keep K5 rb)
  have J5 : LvJ H (upd Hc Ah (.lst zs.reverse)) Ls Ah sp.length st fo := by
   obtain ⟨ys, hy, py⟩ := J.ls
   exact ⟨same_up J.same hAhH, ⟨ys, by rw [upd_ne nLA]; exact hy, py.keep K5⟩, ⟨zs, upd_same, r.keep K5⟩, fun p hp => J.ok p (List.mem_cons_of_mem _ hp)⟩
  obtain ⟨okp, lenp⟩ := J.ok p (by simp)
  generalize upd Hc Ah (.lst zs.reverse) = H5 at K5 q5 vb5 J5 ⊢
  have vd5 := hvd.same J5.same
  obtain ⟨bs, tq⟩ := p
  have lenp : bs.length = sp.length := lenp
  refine ⟨_, rfl, q, _, _, _, rfl, rfl, SqT.of q5, atI_nat (j := 0) rfl, _, rfl, q, _, _, _, rfl, rfl, SqT.of q5, atI_nat (j := 1) rfl, vb, vd, bs, treeD tq, rfl, vb5, vd5, _, rfl, ?_⟩
  cases tq with
  | cut kk a x y =>
   refine iteB (cut_true okp) ?_
   obtain ⟨o1, o2, o3, o4, o5⟩ := okp
   obtain ⟨c, cs, rfl, hc, rc⟩ := hvd.tup_of
   cases rc with
   | cons g0 gr => cases gr with
    | cons g1 gr => cases gr with
     | cons g2 gr => cases gr with
      | cons g3 gr => cases gr with
       | cons g4 gr =>
        cases gr
        cases g0
        cases g1
        cases g2
        rename_i x3 x4
        refine ⟨_, rfl, q, _, _, _, rfl, rfl, SqT.of q5, atI_nat (j := 0) rfl, _, rfl, q, _, _, _, rfl, rfl, SqT.of q5, atI_nat (j := 1) rfl, vb, c, bs, kk, a, x3, x4, rfl, vb5, J5.same _ _ hc, o1, by omega, fun p6 q6 r6 u1 u3 H6 S6 h6 hq6 hu1 hr6 hu3 => ?_⟩
        have J6 := J5.grow S6
        obtain ⟨zs6, hz6, pz6⟩ := J6.ah
        have lz := pz6.length
        have mx : st.length ≤ sizAll st := sizAll_le st
        have hmx : fo.length + ((siz x + siz y + 1) + sizAll st) ≤ 2000 := hmx
        refine ⟨_, rfl, .inl ⟨rfl, _, SqL.of hz6⟩, _, rfl, p6, _, _, _, rfl, rfl, SqT.of h6, atI_nat (j := 1) rfl, Ah, _, _, rfl, rfl, hz6, (Nat.lt_of_lt_of_le (by rw [List.length_reverse, lz]; omega : zs6.reverse.length < 3000) (by decide : 3000 ≤ sizeLine)), ?_⟩
        have K7 : TupK H6 (upd H6 Ah (.lst (zs6.reverse ++ [.ref r6]))) := tupK_upd hz6
        have hz7 : (upd H6 Ah (.lst (zs6.reverse ++ [.ref r6]))) Ah = some (.lst (zs6.reverse ++ [.ref r6])) := upd_same
        have E7 : ∀ b o, b ≠ Ah → H6 b = some o → (upd H6 Ah (.lst (zs6.reverse ++ [.ref r6]))) b = some o := fun b o hb e => by rw [upd_ne hb]; exact e
        have S7 : Same H (upd H6 Ah (.lst (zs6.reverse ++ [.ref r6]))) := same_up J6.same hAhH
        generalize upd H6 Ah (.lst (zs6.reverse ++ [.ref r6])) = H7 at K7 hz7 E7 S7 ⊢
        refine ⟨_, rfl, .inl ⟨rfl, _, SqL.of hz7⟩, _, rfl, p6, _, _, _, rfl, rfl, SqT.of (K7 _ _ h6), atI_nat (j := 0) rfl, Ah, _, _, rfl, rfl, hz7, (Nat.lt_of_lt_of_le (by rw [List.length_append, List.length_reverse, lz]; show st.length + 1 < 3000; omega : (zs6.reverse ++ [V.ref r6]).length < 3000) (by decide : 3000 ≤ sizeLine)), ?_⟩
        have K8 : TupK H7 (upd H7 Ah (.lst (zs6.reverse ++ [.ref r6] ++ [.ref q6]))) := tupK_upd hz7
        have K68 := K7.trans K8
        obtain ⟨ys6, hy6, py6⟩ := J6.ls
        refine ⟨siz x + (siz y + sizAll st), by show _ < siz x + siz y + 1 + sizAll st; omega, (oneB bs kk a, x) :: (otherB bs kk a, y) :: st, fo, _, _, rfl, rfl, ⟨same_up S7 hAhH, ⟨ys6, by rw [upd_ne nLA]; exact E7 _ _ nLA hy6, py6.keep K68⟩, ⟨.ref q6 :: .ref r6 :: zs6, by rw [upd_same, List.reverse_cons, List.reverse_cons], .cons ⟨q6, u1, x3, rfl, K68 _ _ hq6, rowsPk K68 hu1, g3⟩ (.cons ⟨r6, u3, x4, rfl, K68 _ _ hr6, rowsPk K68 hu3, g4⟩ (pz6.keep K68))⟩, fun p hp => ?_⟩, ?_, hall, by show fo.length + (siz x + (siz y + sizAll st)) ≤ 2000; omega⟩
        ·rcases List.mem_cons.mp hp with rfl | hp
         ·exact ⟨o4, by rw [one_len]; exact lenp⟩
         ·rcases List.mem_cons.mp hp with rfl | hp
          ·exact ⟨o5, by rw [other_len]; exact lenp⟩
          ·exact J6.ok p hp
        ·rw [← hl]
         show fo ++ (lvs x _ ++ (lvs y _ ++ lvsAll st)) = fo ++ ((lvs x _ ++ lvs y _) ++ lvsAll st)
         rw [List.append_assoc (lvs x _)]
  | leaf d =>
   refine iteC okp.1 ?_
   refine ⟨_, rfl, _, rfl, q, _, _, _, rfl, rfl, SqT.of q5, atI_nat (j := 1) rfl, v, vd, b, m, sp, d, rfl, hv.same J5.same, vd5, okp.2, fun H6 S6 => ⟨_, rfl, ?_⟩⟩
   have J6 := J5.grow S6
   by_cases hlf : leafB sp d = true
   rotate_left
   ·refine iteC (Bool.eq_false_iff.mpr hlf) (iteC rfl ?_)
    refine k .non H6 J6.same ?_
    rw [if_neg]
    rw [← hl]
    intro z
    rw [List.all_append, Bool.and_eq_true] at z
    have z2 : ((lvs (.leaf d) bs ++ lvsAll st).all fun p => leafB sp p.2) = true := z.2
    rw [List.all_append, Bool.and_eq_true] at z2
    have z3 : (([(bs, d)] : List (List (Int × Int) × Dt)).all fun p => leafB sp p.2) = true := z2.1
    simp at z3
    exact hlf z3
   refine iteB hlf ?_
   obtain ⟨ys6, hy6, py6⟩ := J6.ls
   have ly := py6.length
   rw [List.length_map] at ly
   refine ⟨_, rfl, Ls, _, rfl, .inl (SqL.of hy6), _, _, rfl, rfl, _, rfl, iteB (decide_eq_true (by show (ys6.length : Int) < 20000; omega)) ?_⟩
   refine ⟨_, rfl, .inl ⟨rfl, _, SqL.of hy6⟩, _, rfl, Ls, _, _, rfl, rfl, hy6, (Nat.lt_of_lt_of_le (by omega : ys6.length < 3000) (by decide : 3000 ≤ sizeLine)), ?_⟩
   have K7 : TupK H6 (upd H6 Ls (.lst (ys6 ++ [.ref q]))) := tupK_upd hy6
   obtain ⟨zs6, hz6, pz6⟩ := J6.ah
   have hmx : fo.length + (1 + sizAll st) ≤ 2000 := hmx
   refine ⟨sizAll st, by show _ < 1 + sizAll st; omega, st, fo ++ [(bs, d)], _, _, rfl, rfl, ⟨same_up J6.same hLs, ⟨_, upd_same, ?_⟩, ⟨zs6, by rw [upd_ne nLA.symm]; exact hz6, pz6.keep K7⟩, J6.ok⟩, ?_, allP hall hlf, by rw [List.length_append]; show fo.length + 1 + _ ≤ 2000; omega⟩
   ·rw [List.map_append]
    refine (py6.keep K7).append (.cons ⟨q, vb, vd, rfl, K7 _ _ (S6 _ _ q5), ?_, hvd⟩ .nil)
    obtain ⟨pb, yb, rfl, hpb, _, rb⟩ := rows_of (vb5.same S6)
    exact .tup (K7 _ _ hpb) (rows_keep K7 rb)
   ·rw [← hl, List.append_assoc]; rfl
end
end HN
namespace HN
open PySem L2 PyProof.Rows
abbrev sTreeI : Stmt := top 24
abbrev sLeavesOf : Stmt := top 25
def bs0 (sp : List Sn) : List (Int × Int) := sp.map fun x => (x.l, x.o)
def allB (sp : List Sn) (t : Tq) : Bool := (lvs t (bs0 sp)).all fun p => leafB sp p.2
def spTreeI : Sp := fun vs H Q _ => ∃ (v u : V) (b m : Int) (sp : List Sn) (t : Tq), vs = [v, u] ∧ IsD H v (netP b m sp) ∧ IsD H u (treeD t) ∧ sp.length ≤ 40 ∧ CutsOk t (bs0 sp) ∧ siz t ≤ 2000 ∧ ∀ (c : Bool) H', c = allB sp t → Same H H' → Q (.bl c) H'
def spLeavesOf : Sp := fun vs H Q _ => ∃ (v u : V) (b m : Int) (sp : List Sn) (t : Tq), vs = [v, u] ∧ IsD H v (netP b m sp) ∧ IsD H u (treeD t) ∧ sp.length ≤ 40 ∧ CutsOk t (sp.map fun x => (x.l, x.o)) ∧ siz t ≤ 2000 ∧ ((lvs t (sp.map fun x => (x.l, x.o))).all fun p => leafB sp p.2) = true ∧
 ∀ q H', Same H H' → IsD H' (.ref q) (.tup ((lvs t (sp.map fun x => (x.l, x.o))).map plcD)) → Q (.ref q) H'
section
variable {P : Program} {w : World} {K : PySem.W.Frag} {mg : Str → Option Value} {base : Heap}
theorem scTreeI : FnScope ["net", "thing"] ["net", "thing"] (defScope sTreeI) := ⟨rfl, rfl, rfl, by decide +kernel, rfl, by decide +kernel, by decide +kernel⟩
theorem ok_treeI {f f1 : Addr} {fd fd1 : FuncData} (F : Fun K "is_tree" "is_tree" sTreeI f fd) (G1 : Fn K mg "leaves_in" sLeavesIn ["net", "thing"] f1 fd1) (F1 : FnOk P w K mg base CX0 8 f1 fd1 ["net", "thing"] spLeavesIn) : FnOk P w K mg base CX0 9 f fd ["net", "thing"] spTreeI := by
 refine F.ok scTreeI (fun vs H Q E h => by obtain ⟨v, u, b, m, sp, t, rfl, _⟩ := h; rfl) (fun cdv A outer s H vs Q E hr h => ?_)
 obtain ⟨v, u, b, m, sp, t, rfl, hv, hu, few, hc, hs, k⟩ := h
 refine ⟨_, PSl.h (l_one ⟨(ps_ret (pe_cmpR op_notN (pc1 G1 F1 hr (pa_cons (pv 0) (pa_cons (pv 1) pa_nil))) pe_non (nomark _)))⟩), ?_⟩
 refine ⟨_, rfl, _, rfl, v, u, b, m, sp, t, rfl, hv, hu, few, hc, hs, fun res H' S' hres => ⟨rfl, ?_⟩⟩
 cases q : allB sp t with
 | true =>
  rw [if_pos (show ((lvs t (sp.map fun x => (x.l, x.o))).all fun p => leafB sp p.2) = true from q)] at hres
  obtain ⟨L, ys, rfl, _⟩ := hres
  rw [decide_eq_false (by intro z; cases z)]
  exact k _ H' q.symm S'
 | false =>
  rw [if_neg (by rw [show ((lvs t (sp.map fun x => (x.l, x.o))).all fun p => leafB sp p.2) = false from q]; decide)] at hres
  subst hres
  rw [decide_eq_true rfl]
  exact k _ H' q.symm S'
theorem scLeavesOf : FnScope ["net", "tree"] ["net", "tree"] (defScope sLeavesOf) := ⟨rfl, rfl, rfl, by decide +kernel, rfl, by decide +kernel, by decide +kernel⟩
theorem ok_leavesOf {f f1 : Addr} {fd fd1 : FuncData} (F : Fun K "leaves_of" "leaves_of" sLeavesOf f fd) (T : Nm mg) (G1 : Fn K mg "leaves_in" sLeavesIn ["net", "thing"] f1 fd1) (F1 : FnOk P w K mg base CX0 8 f1 fd1 ["net", "thing"] spLeavesIn) : FnOk P w K mg base CX0 9 f fd ["net", "tree"] spLeavesOf := by
 refine F.ok scLeavesOf (fun vs H Q E h => by obtain ⟨v, u, b, m, sp, t, rfl, _⟩ := h; rfl) (fun cdv A outer s H vs Q E hr h => ?_)
 obtain ⟨v, u, b, m, sp, t, rfl, hv, hu, few, ok, hsz, hall, k⟩ := h
 refine ⟨_, PSl.h (l_one ⟨(ps_ret (pe_callTy call_tupA rfl T.ttup boot_tuple (pa_cons (pc1 G1 F1 hr (pa_cons (pv 0) (pa_cons (pv 1) pa_nil))) pa_nil)))⟩), ?_⟩
 refine ⟨_, rfl, _, rfl, v, u, b, m, sp, t, rfl, hv, hu, few, ok, hsz, fun res H1 S1 hres => ?_⟩
 rw [if_pos hall] at hres
 obtain ⟨L, ys, rfl, hL0, hL, d⟩ := hres
 exact ⟨L, _, rfl, SqL.of hL, fun q H2 S2 h2 => k q H2 (S1.trans S2) (.tup h2 (d.same S2))⟩
end
end HN
namespace HN
open PySem L2 PyProof.Rows
abbrev sBoundsF : Stmt := top 37
section
variable {P : Program} {w : World} {K : PySem.W.Frag} {mg : Str → Option Value} {base : Heap}
theorem scBoundsF : FnScope ["_law_net_here"] ["_law_net_here"] (defScope sBoundsF) := ⟨rfl, rfl, rfl, by decide +kernel, rfl, by decide +kernel, by decide +kernel⟩
theorem ok_boundsF {f : Addr} {fd : FuncData} (F : Fun K "_law_bounds" "_law_bounds" sBoundsF f fd) (T : Nm mg) : FnOk P w K mg base CX0 1 f fd ["_law_net_here"] spFirst := by
 refine F.ok scBoundsF (fun vs H Q E h => by obtain ⟨v, b, m, sp, rfl, _⟩ := h; rfl) (fun cdv A outer s H vs Q E hr h => ?_)
 obtain ⟨v, b, m, sp, rfl, hv, few, k⟩ := h
 obtain ⟨t, p, ys, rfl, ht, hp, hl, hy⟩ := netP_of hv
 refine ⟨_, PSl.h (l_one ⟨(ps_ret (pe_callTy call_tupA rfl T.ttup boot_tuple (pa_cons (pe_comp (fr := []) (js := []) rfl (pi_tup (pe_ix ix_tup (pv 0) pe_int (fun _ _ => rfl))) (by decide +kernel) rfl (by decide +kernel) rfl (by show ∀ y : Str × NameKind, y ∈ _ → y.2 = NameKind.free → List.lookup y.1 (defScope sBoundsF).names = some NameKind.cell; decide +kernel) (by decide +kernel) rfl (by decide +kernel) (fun _ _ _ _ _ => ⟨(pe_tupA (pa_cons (pe_ix (r := rIxT K) ix_tup (pv 0) pe_int (fun _ _ => rfl)) (pa_cons (pe_ix (r := rIxT K) ix_tup (pv 0) pe_int (fun _ _ => rfl)) pa_nil))), pts_nil⟩)) pa_nil)))⟩), ?_⟩
 refine ⟨_, rfl, t, _, _, _, rfl, rfl, SqT.of ht, atI_nat (j := 2) rfl, p, rfl, ⟨_, SqT.of hp⟩, ?_⟩
 refine comp_tup (K := K) (a := p) (xs := ys) (fun i zs H2 => Same H H2 ∧ IsDs H2 zs (((sp.take i).map fun x => (x.l, x.o)).map fun x => .tup ((bndR x).map Dt.int))) ⟨Same.refl H, .nil⟩ (fun i zs H2 hi ⟨e1, e2⟩ => ?_) (by rw [hl]; exact small_le few) (fun i x zs H2 hx ⟨e1, e2⟩ => ?_) (fun zs H2 ⟨e1, e2⟩ D hD => ?_)
 ·refine ⟨SqT.of (e1 _ _ hp), ?_⟩
  rw [e2.length, List.length_map, List.length_map, List.length_take]; omega
 ·have hi : i < sp.length := by rw [← hl]; exact (List.getElem?_eq_some_iff.mp hx).1
  obtain ⟨q, hq, hq2⟩ := hy i sp[i] (gE hi)
  rw [hx] at hq
  cases hq
  have hq3 := e1 _ _ hq2
  refine tNoIf_go ?_
  refine ⟨_, rfl, q, _, _, _, rfl, rfl, SqT.of hq3, atI_nat (j := 2) rfl, _, rfl, q, _, _, _, rfl, rfl, SqT.of hq3, atI_nat (j := 3) rfl, (by show 2 ≤ sizeLine; decide), fun q4 H4 S4 h4 => ⟨e1.trans S4, ?_⟩⟩
  rw [List.take_add_one, gE hi, List.map_append, List.map_append]
  exact (e2.same S4).append (.cons (.tup h4 (IsDs.ints [sp[i].l, sp[i].o])) .nil)
 ·refine ⟨D, _, rfl, SqL.of upd_same, fun p3 H3 S3 h3 => ?_⟩
  have S23 := (Same.put (o := .lst zs) (Same.refl H2) hD).trans S3
  refine k (.ref p3) H3 (e1.trans S23) (.tup h3 ?_)
  rw [hl, List.take_length] at e2
  exact e2.same S23
end
end HN
namespace HN
open PySem L2 PyProof.Rows
abbrev sWaitsN : Stmt := top 43
section
variable {P : Program} {w : World} {K : PySem.W.Frag} {mg : Str → Option Value} {base : Heap}
theorem scWaitsN : FnScope ["_law_net_here", "_law_table", "_law_waits_here", "_law_start", "_law_goal", "_law_least", "_law_most", "_law_weight"] ["_law_net_here", "_law_table"] (defScope sWaitsN) := ⟨rfl, rfl, rfl, by decide +kernel, rfl, by decide +kernel, by decide +kernel⟩
theorem ok_waitsN {f : Addr} {fd : FuncData} (F : Fun K "_law_waits" "_law_waits" sWaitsN f fd) : FnOk P w K mg base CX0 1 f fd ["_law_net_here", "_law_table"] spWaitsN := by
 refine F.ok scWaitsN (fun vs H Q E h => by obtain ⟨v, u, b, m, sp, ts, rfl, _⟩ := h; rfl) (fun cdv A outer s H vs Q E hr h => ?_)
 obtain ⟨v, u, b, m, sp, ts, rfl, hv, hu, R, k⟩ := h
 obtain ⟨t, p, ys, rfl, ht, hp, hl, hy⟩ := netP_of hv
 have few := R.few
 refine ⟨_, PSl.h (l_cons ⟨(ps_set (i := 2) scWaitsN.nd rfl (Or.inl rfl) (pe_lst pa_nil))⟩
  (l_cons ⟨(ps_for PassesOwn.never rfl (pi_tup (pe_ix ix_tup (pv 0) pe_int (fun _ _ => rfl))) (pg_tup rfl (pgs_cons (pg_name (i := 3) scWaitsN.nd rfl (Or.inl rfl)) (pgs_cons (pg_name (i := 4) scWaitsN.nd rfl (Or.inl rfl)) (pgs_cons (pg_name (i := 5) scWaitsN.nd rfl (Or.inl rfl)) (pgs_cons (pg_name (i := 6) scWaitsN.nd rfl (Or.inl rfl)) (pgs_cons (pg_name (i := 7) scWaitsN.nd rfl (Or.inl rfl)) pgs_nil)))))) (pss_one (ps_expr (pe_bm PySem.F.plainAttrs_list PySem.F.slot_list_append PySem.F.type_list_append mt_append (pv 2) (pa_cons (pe_op op_mod (pe_op op_sub (pe_op op_sub (pe_ix ix_tup (pv 1) (pv 4) (fun _ _ => rfl)) (pe_ix ix_tup (pv 1) (pv 3) (fun _ _ => rfl))) (pv 5)) (pe_ix ix_tup (pv 0) pe_int (fun _ _ => rfl))) pa_nil)))))⟩
  (l_one ⟨(ps_ret (pv 2))⟩))), ?_⟩
 refine ⟨Nat.zero_le _, fun L hL => ?_⟩
 have S1 : Same H (upd H L (.lst [])) := Same.put (Same.refl H) hL
 have h1 : (upd H L (.lst [])) L = some (.lst []) := upd_same
 generalize upd H L (.lst []) = H1 at S1 h1 ⊢
 refine ⟨_, rfl, t, _, _, _, rfl, rfl, SqT.of (S1 _ _ ht), atI_nat (j := 2) rfl, p, rfl, ⟨_, SqT.of (S1 _ _ hp)⟩, ?_⟩
 refine for_tup (K := K) (xs := ys) (fun i σ H2 => Same H H2 ∧ H2 L = some (.lst ((waitsM b ts (sp.take i)).map V.int)) ∧ ∃ v3 v4 v5 v6 v7, σ = [some (.ref t), some (.ref u), some (.ref L), v3, v4, v5, v6, v7]) ⟨S1, h1, none, none, none, none, none, rfl⟩ (fun i σ H2 _ ⟨S2, _⟩ => SqT.of (S2 _ _ hp)) ?_ ?_
 ·rintro i x σ H2 hx ⟨S2, h2, v3, v4, v5, v6, v7, rfl⟩
  have hi : i < sp.length := by rw [← hl]; exact (List.getElem?_eq_some_iff.mp hx).1
  obtain ⟨q, hq, hq2⟩ := hy i sp[i] (gE hi)
  rw [hx] at hq
  cases hq
  have hq3 := S2 _ _ hq2
  have hu2 := S2 _ _ hu
  obtain ⟨s0, s1, g0, g1⟩ := R.ends sp[i] (List.getElem_mem hi)
  refine ⟨q, _, rfl, SqT.of hq3, rfl, _, _, rfl, _, _, rfl, _, _, rfl, _, _, rfl, _, _, rfl, rfl, ?_⟩
  refine ⟨_, rfl, .inl ⟨rfl, _, SqL.of h2⟩, _, rfl, _, rfl, u, _, _, _, rfl, rfl, SqT.of hu2, tm_at g0 g1, _, rfl, _, rfl, u, _, _, _, rfl, rfl, SqT.of hu2, tm_at s0 s1, _, _, rfl, rfl, _, rfl, _, _, rfl, rfl, _, rfl, t, _, _, _, rfl, rfl, SqT.of (S2 _ _ ht), atI_nat (j := 0) rfl, _, _, rfl, rfl, R.b1, ?_⟩
  refine ⟨L, _, _, rfl, rfl, h2, (Nat.lt_of_lt_of_le (by unfold waitsM; rw [List.length_map, List.length_map, List.length_take]; omega : _ < 1001) (by decide : 1001 ≤ sizeLine)), ?_⟩
  refine ⟨fun c o e => ?_, ?_, _, _, _, _, _, rfl⟩
  ·rw [upd_ne (fun z => by rw [z, hL] at e; cases e)]
   exact S2 _ _ e
  ·rw [upd_same, List.take_add_one, gE hi]
   unfold waitsM
   rw [List.map_append, List.map_append]; rfl
 ·rintro σ H2 ⟨S2, h2, v3, v4, v5, v6, v7, rfl⟩
  rw [hl, List.take_length] at h2
  exact ⟨_, rfl, k L H2 S2 h2⟩
end
end HN
namespace HN
open PySem L2 PyProof.Rows
abbrev sFitsN : Stmt := top 44
abbrev sWaitN : Stmt := top 45
section
variable {P : Program} {w : World} {K : PySem.W.Frag} {mg : Str → Option Value} {base : Heap}
theorem scFitsN : FnScope ["_law_net_here", "_law_table", "_law_wait_here", "_law_span_here"] ["_law_net_here", "_law_table"] (defScope sFitsN) := ⟨rfl, rfl, rfl, by decide +kernel, rfl, by decide +kernel, by decide +kernel⟩
theorem ok_fitsN {f f1 : Addr} {fd fd1 : FuncData} (F : Fun K "_law_fits" "_law_fits" sFitsN f fd) (T2 : Nt mg) (G1 : Fn K mg "_law_waits" sWaitsN ["_law_net_here", "_law_table"] f1 fd1) : FnOk P w K mg base CX0 2 f fd ["_law_net_here", "_law_table"] spFits := by
 have F1 : FnOk P w K mg base CX0 1 f1 fd1 ["_law_net_here", "_law_table"] spWaitsN := ok_waitsN G1.F
 refine F.ok scFitsN (fun vs H Q E h => by obtain ⟨v, u, b, m, sp, ts, rfl, _⟩ := h; rfl) (fun cdv A outer s H vs Q E hr h => ?_)
 obtain ⟨v, u, b, m, sp, ts, rfl, hv, hu, R, k⟩ := h
 obtain ⟨t, p, ys, rfl, ht, hp, hl, hy⟩ := netP_of hv
 refine ⟨_, PSl.h (l_cons ⟨(ps_for PassesOwn.never rfl (pi_zip2 rfl T2.zip (pa_cons (pc1 G1 F1 hr (pa_cons (pv 0) (pa_cons (pv 1) pa_nil))) (pa_cons (pe_ix ix_tup (pv 0) pe_int (fun _ _ => rfl)) pa_nil))) (pg_tup rfl (pgs_cons (pg_name (i := 2) scFitsN.nd rfl (Or.inl rfl)) (pgs_cons (pg_name (i := 3) scFitsN.nd rfl (Or.inl rfl)) pgs_nil))) (pss_one (ps_if (pt_cmpR op_gt (pv 2) (pe_op op_sub (pe_ix ix_tup (pv 3) pe_int (fun _ _ => rfl)) (pe_ix ix_tup (pv 3) pe_int (fun _ _ => rfl))) (nomark _)) (pss_one (ps_ret pe_bl)) pss_nil)))⟩
  (l_one ⟨(ps_ret pe_bl)⟩)), ?_⟩
 refine ⟨_, rfl, _, rfl, .ref t, u, b, m, sp, ts, rfl, hv, hu, R, fun L H1 S1 h1 => ?_⟩
 refine ⟨_, rfl, t, _, _, _, rfl, rfl, SqT.of (S1 _ _ ht), atI_nat (j := 2) rfl, ⟨true, L⟩, ⟨false, p⟩, _, _, rfl, h1, S1 _ _ hp, ?_⟩
 refine for_zip2 (c1 := ⟨true, L⟩) (c2 := ⟨false, p⟩) (xs := (waitsM b ts sp).map V.int) (ys := ys) (fun i σ H2 => Same H1 H2 ∧ (∀ x ∈ sp.take i, brk b ts x = false) ∧ ∃ v2 v3, σ = [some (.ref t), some (.ref u), v2, v3]) ⟨Same.refl H1, fun _ h => absurd h (by simp), none, none, rfl⟩ (fun i σ H2 _ ⟨S2, _⟩ => ⟨S2 _ _ h1, S2 _ _ (S1 _ _ hp)⟩) (by unfold waitsM; rw [List.length_map, List.length_map, hl]) ?_ ?_
 ·rintro i x y pz σ H2 hx' hx ⟨S2, hno, v2, v3, rfl⟩ hpz
  have hi : i < sp.length := by rw [← hl]; exact (List.getElem?_eq_some_iff.mp hx).1
  obtain ⟨q, hq, hq2⟩ := hy i sp[i] (gE hi)
  rw [hx] at hq
  cases hq
  unfold waitsM at hx'
  rw [List.getElem?_map, List.getElem?_map, gE hi] at hx'
  cases hx'
  have S3 : Same H1 (upd H2 pz (.tup [.int (waitM b ts sp[i]), .ref q])) := S2.put hpz
  have h3 : (upd H2 pz (.tup [.int (waitM b ts sp[i]), .ref q])) pz = some (.tup [.int (waitM b ts sp[i]), .ref q]) := upd_same
  generalize upd H2 pz (.tup [.int (waitM b ts sp[i]), .ref q]) = H3 at S3 h3 ⊢
  have hq3 := S3 _ _ (S1 _ _ hq2)
  refine ⟨pz, _, rfl, SqT.of h3, rfl, _, _, rfl, _, _, rfl, rfl, ?_⟩
  refine ⟨_, rfl, _, rfl, q, _, _, _, rfl, rfl, SqT.of hq3, atI_nat (j := 3) rfl, _, rfl, q, _, _, _, rfl, rfl, SqT.of hq3, atI_nat (j := 2) rfl, _, _, rfl, rfl, _, _, rfl, rfl, _, rfl, ?_⟩
  refine ite2 (fun hc => ?_) (fun hc => ?_)
  ·have e : fitsM b ts sp = false := by
    unfold fitsM
    rw [List.any_eq_true.mpr ⟨sp[i], List.getElem_mem hi, hc⟩]; rfl
   have kk := k H3 (S1.trans S3)
   rw [e] at kk
   exact kk
  ·refine ⟨S3, fun x hx => ?_, _, _, rfl⟩
   rw [List.take_add_one, gE hi] at hx
   rcases List.mem_append.mp hx with hx | hx
   ·exact hno x hx
   ·rw [List.mem_singleton.mp hx]
    exact Bool.eq_false_iff.mpr hc
 ·rintro σ H2 ⟨S2, hno, v2, v3, rfl⟩
  have e : fitsM b ts sp = true := by
   unfold fitsM
   rw [Bool.not_eq_true', List.any_eq_false]
   intro x hx
   have := hno x (by unfold waitsM; rw [List.length_map, List.length_map, List.take_length]; exact hx)
   rw [this]; exact Bool.false_ne_true
  have kk := k H2 (S1.trans S2)
  rw [e] at kk
  exact kk
theorem scWaitN : FnScope ["_law_net_here", "_law_table"] ["_law_net_here", "_law_table"] (defScope sWaitN) := ⟨rfl, rfl, rfl, by decide +kernel, rfl, by decide +kernel, by decide +kernel⟩
theorem ok_waitN {f f1 : Addr} {fd fd1 : FuncData} (F : Fun K "_law_wait" "_law_wait" sWaitN f fd) (T2 : Nt mg) (G1 : Fn K mg "_law_waits" sWaitsN ["_law_net_here", "_law_table"] f1 fd1) : FnOk P w K mg base CX0 2 f fd ["_law_net_here", "_law_table"] spWaitOf := by
 have F1 : FnOk P w K mg base CX0 1 f1 fd1 ["_law_net_here", "_law_table"] spWaitsN := ok_waitsN G1.F
 refine F.ok scWaitN (fun vs H Q E h => by obtain ⟨v, u, b, m, sp, ts, rfl, _⟩ := h; rfl) (fun cdv A outer s H vs Q E hr h => ?_)
 obtain ⟨v, u, b, m, sp, ts, rfl, hv, hu, R, hw, k⟩ := h
 obtain ⟨t, p, ys, rfl, ht, hp, hl, hy⟩ := netP_of hv
 have few := R.few
 refine ⟨_, PSl.h (l_one ⟨(ps_ret (pe_callB (call_sum rfl) rfl T2.sum boot_sum (pa_cons (pe_compT (xs := ["_law_wait_here", "_law_span_here"]) (fr := []) (js := []) rfl (pi_zip2 rfl T2.zip (pa_cons (pc1 G1 F1 hr (pa_cons (pv 0) (pa_cons (pv 1) pa_nil))) (pa_cons (pe_ix ix_tup (pv 0) pe_int (fun _ _ => rfl)) pa_nil))) (by decide +kernel) rfl (by decide +kernel) (by show ∀ y : Str × NameKind, y ∈ _ → y.2 = NameKind.free → List.lookup y.1 (defScope sWaitN).names = some NameKind.cell; decide +kernel) rfl (by decide +kernel) (fun _ _ _ _ _ => pg_two rfl (by decide +kernel) rfl rfl) (fun _ _ _ _ _ => ⟨(pe_op op_mul (pv 0) (pe_ix (r := rIxT K) ix_tup (pv 1) pe_int (fun _ _ => rfl))), pts_nil⟩)) pa_nil)))⟩), ?_⟩
 refine ⟨_, rfl, _, rfl, .ref t, u, b, m, sp, ts, rfl, hv, hu, R, fun L H1 S1 h1 => ?_⟩
 refine ⟨_, rfl, t, _, _, _, rfl, rfl, SqT.of (S1 _ _ ht), atI_nat (j := 2) rfl, ⟨true, L⟩, ⟨false, p⟩, _, _, rfl, h1, S1 _ _ hp, ?_⟩
 refine compT_zip2 (K := K) (c1 := ⟨true, L⟩) (c2 := ⟨false, p⟩) (xs := (waitsM b ts sp).map V.int) (ys := ys) (fun i zs H2 => Same H1 H2 ∧ zs = ((sp.take i).map fun x => x.w * waitM b ts x).map V.int) ⟨Same.refl H1, rfl⟩ (fun i zs H2 hi ⟨S2, e2⟩ => ⟨S2 _ _ h1, S2 _ _ (S1 _ _ hp), ?_⟩) (by unfold waitsM; rw [List.length_map, List.length_map, hl]) (by unfold waitsM; rw [List.length_map, List.length_map]; exact small_le few) (fun i x y zs pz H2 hx' hx ⟨S2, e2⟩ hpz => ?_) (fun zs H2 ⟨S2, e2⟩ D hD => ?_)
 ·rw [e2, List.length_map, List.length_map, List.length_take]; omega
 ·have hi : i < sp.length := by rw [← hl]; exact (List.getElem?_eq_some_iff.mp hx).1
  obtain ⟨q, hq, hq2⟩ := hy i sp[i] (gE hi)
  rw [hx] at hq
  cases hq
  unfold waitsM at hx'
  rw [List.getElem?_map, List.getElem?_map, gE hi] at hx'
  cases hx'
  have S3 : Same H1 (upd H2 pz (.tup [.int (waitM b ts sp[i]), .ref q])) := S2.put hpz
  generalize upd H2 pz (.tup [.int (waitM b ts sp[i]), .ref q]) = H3 at S3 ⊢
  have hq3 := S3 _ _ (S1 _ _ hq2)
  obtain ⟨w0, w1⟩ := hw sp[i] (List.getElem_mem hi)
  refine tNoIf_go ?_
  refine ⟨_, rfl, _, rfl, q, _, _, _, rfl, rfl, SqT.of hq3, atI_nat (j := 4) rfl, _, _, rfl, rfl, .inr ⟨by omega, by omega⟩, S3, ?_⟩
  show zs ++ [V.int (waitM b ts sp[i] * sp[i].w)] = _
  rw [e2, Int.mul_comm (waitM b ts sp[i]) sp[i].w, List.take_add_one, gE hi, List.map_append, List.map_append]
  rfl
 ·refine ⟨D, _, rfl, SqL.of (by rw [e2]; exact upd_same), ?_⟩
  have e3 : ((sp.take ((waitsM b ts sp).map V.int).length).map fun x => x.w * waitM b ts x).sum = waitOfM b ts sp := by
   unfold waitOfM waitsM
   rw [List.length_map, List.length_map, List.take_length]
  rw [e3]
  exact k _ (S1.trans (S2.put hD))
end
end HN
namespace HN
open PySem L2 PyProof.Rows
abbrev sTables : Stmt := top 42
section
variable {P : Program} {w : World} {K : PySem.W.Frag} {mg : Str → Option Value} {base : Heap}
theorem scTables : FnScope ["_law_beat", "_law_many", "_law_tables_here", "_law_k", "_law_longer", "_law_table"] ["_law_beat", "_law_many"] (defScope sTables) := ⟨rfl, rfl, rfl, by decide +kernel, rfl, by decide +kernel, by decide +kernel⟩
theorem ok_tables {f : Addr} {fd : FuncData} (F : Fun K "_law_tables" "_law_tables" sTables f fd) (T2 : Nt mg) : FnOk P w K mg base CX0 1 f fd ["_law_beat", "_law_many"] spTablesA := by
 refine F.ok scTables (fun vs H Q E h => by obtain ⟨b, m, rfl, _⟩ := h; rfl) (fun cdv A outer s H vs Q E hr h => ?_)
 obtain ⟨b, m, rfl, b0, b1, m0, m1, k⟩ := h
 refine ⟨_, PSl.h (l_cons ⟨(ps_set (i := 2) scTables.nd rfl (Or.inl rfl) (pe_lstA (pa_cons (pe_tupA pa_nil) pa_nil)))⟩
  (l_cons ⟨(ps_for PassesOwn.never rfl (pi_range1 rfl T2.range (pa_cons (pv 1) pa_nil)) (pg_name (i := 3) scTables.nd rfl (Or.inl rfl)) (PSl.h (l_cons ⟨(ps_set (i := 4) scTables.nd rfl (Or.inl rfl) (pe_lst pa_nil))⟩
  (l_cons ⟨(ps_for PassesOwn.never rfl (pi_list (pv 2)) (pg_name (i := 5) scTables.nd rfl (Or.inr rfl)) (pss_one (ps_expr (pe_bm PySem.F.plainAttrs_list PySem.F.slot_list_extend PySem.F.type_list_extend mt_extend (pv 4) (pa_cons (pe_comp (fr := ["_law_table"]) (js := [5]) rfl (pi_range1 rfl T2.range (pa_cons (pv 0) pa_nil)) (by decide +kernel) rfl (by decide +kernel) rfl (by show ∀ y : Str × NameKind, y ∈ _ → y.2 = NameKind.free → List.lookup y.1 (defScope sTables).names = some NameKind.cell; decide +kernel) (by decide +kernel) rfl (by decide +kernel) (fun _ _ _ _ _ => ⟨(pe_op (r := rCatA K) op_catA (pv 1) (pe_tupA (pa_cons (pv 0) pa_nil))), pts_nil⟩)) pa_nil)))))⟩
  (l_one ⟨(ps_set (i := 2) scTables.nd rfl (Or.inl rfl) (pv 4))⟩)))))⟩
  (l_one ⟨(ps_ret (pv 2))⟩))), ?_⟩
 refine ⟨Nat.zero_le _, fun q1 H1 S1 h1 => ⟨(by show 1 ≤ sizeLine; decide), fun q2 H2 S2 h2 => ?_⟩⟩
 refine ⟨_, rfl, m, rfl, by omega, by omega, ?_⟩
 refine for_range (n := m.toNat) (fun i σ H3 => Same H H3 ∧ ∃ (L : Addr) (us : List V) (v3 v4 v5 : Option V), σ = [some (.int b), some (.int m), some (.ref L), v3, v4, v5] ∧ H3 L = some (.lst us) ∧ IsDs H3 us (rowsD id (allT b.toNat i))) ⟨S1.trans S2, q2, _, none, none, none, rfl, h2, .cons (.tup (S2 _ _ h1) .nil) .nil⟩ ?_ ?_
 ·rintro i σ H3 hi ⟨S3, L, us, v3, v4, v5, rfl, hL, hT⟩
  have lus : us.length = (allT b.toNat i).length := by rw [hT.length]; exact List.length_map ..
  have hn : us.length ≤ 6 ^ i := by rw [lus]; exact Nat.le_trans (allT_len b.toNat i) (Nat.pow_le_pow_left (by omega) i)
  have h216 : 6 ^ i ≤ 216 := pow6 (by omega)
  refine ⟨Nat.zero_le _, fun q4 hq4 => ?_⟩
  have S4 : Same H3 (upd H3 q4 (.lst [])) := Same.put (Same.refl H3) hq4
  have h4 : (upd H3 q4 (.lst [])) q4 = some (.lst []) := upd_same
  generalize upd H3 q4 (.lst []) = H4 at S4 h4 ⊢
  have hLq : L ≠ q4 := fun e => by rw [e, hq4] at hL; cases hL
  refine ⟨_, rfl, L, rfl, ⟨_, SqL.of (S4 _ _ hL)⟩, ?_⟩
  refine for_list (K := K) (a := L) (xs := us) (fun j σ H5 => Same H3 H5 ∧ ∃ (ws : List V) (v5 : Option V), σ = [some (.int b), some (.int m), some (.ref L), some (.int ((0 : Int) + (i : Nat))), some (.ref q4), v5] ∧ H5 q4 = some (.lst ws) ∧ IsDs H5 ws (rowsD id (longer b.toNat ((allT b.toNat i).take j))) ∧ ws.length ≤ 6 * j) ⟨S4, [], _, rfl, h4, .nil, Nat.le_refl _⟩ (fun j σ H5 _ ⟨S5, _⟩ => SqL.of (S5 _ _ hL)) ?_ ?_
  ·rintro j u σ H5 hu ⟨S5, ws, v5, rfl, hL2, hW, hwn⟩
   have hj : j < us.length := (List.getElem?_eq_some_iff.mp hu).1
   have hj2 : j < (allT b.toNat i).length := by omega
   obtain ⟨d, ed, dd⟩ := hT.get hu
   unfold rowsD at ed
   rw [List.getElem?_map, gE hj2] at ed
   cases ed
   obtain ⟨q, zs, rfl, hq, rz⟩ := dd.tup_of
   have ez := rz.ints_of
   subst ez
   have hlen : ((allT b.toNat i)[j]).length = i := allT_each b.toNat i _ (List.getElem_mem hj2)
   obtain ⟨ts, hts⟩ : ∃ ts, ts = (allT b.toNat i)[j] := ⟨_, rfl⟩
   have hq5 : H5 q = some (.tup (ts.map V.int)) := by rw [hts]; exact S5 _ _ hq
   rw [← hts] at hlen
   have elong : longer b.toNat ((allT b.toNat i).take (j + 1)) = longer b.toNat ((allT b.toNat i).take j) ++ (List.range b.toNat).map fun c : Nat => ts ++ [(0 : Int) + (c : Nat)] := by
    unfold longer
    rw [List.take_add_one, gE hj2, List.flatMap_append, hts]
    simp
   refine ⟨_, rfl, .inl ⟨rfl, _, SqL.of hL2⟩, _, rfl, b, rfl, by omega, by omega, ?_⟩
   refine comp_range (n := b.toNat) (fun c zs H6 => Same H5 H6 ∧ IsDs H6 zs (rowsD id ((List.range c).map fun c : Nat => ts ++ [(0 : Int) + (c : Nat)]))) ⟨Same.refl H5, .nil⟩ (fun c zs H6 _ ⟨_, e⟩ => by rw [e.length]; unfold rowsD; rw [List.length_map, List.length_map, List.length_range]; exact Nat.le_refl _) (small_le (by omega)) (fun c zs H6 hc ⟨S6, hz⟩ => ?_) (fun zs H6 ⟨S6, hz⟩ D hD => ?_)
   ·refine tNoIf_go ?_
    refine ⟨_, rfl, _, rfl, (by show 1 ≤ sizeLine; decide), fun q7 H7 S7 h7 => ⟨q, q7, _, _, rfl, rfl, S7 _ _ (S6 _ _ hq5), h7, ?_, fun q8 H8 S8 h8 => ⟨S6.trans (S7.trans S8), ?_⟩⟩⟩
    ·rw [List.length_map, hlen]; exact Nat.le_trans (by show i + 1 ≤ 1000; omega) (by decide)
    ·unfold rowsD
     rw [List.range_succ, List.map_append, List.map_append]
     exact (hz.same (S7.trans S8)).append (.cons (.tup (by rw [h8]) (by show IsDs H8 _ ((ts ++ [(0 : Int) + (c : Nat)]).map Dt.int); rw [show ts.map V.int ++ [V.int ((0 : Int) + (c : Nat))] = (ts ++ [(0 : Int) + (c : Nat)]).map V.int by rw [List.map_append]; rfl]; exact IsDs.ints _)) .nil)
   ·have S7 : Same H5 (upd H6 D (.lst zs)) := S6.put hD
    have hD7 : (upd H6 D (.lst zs)) D = some (.lst zs) := upd_same
    have hz7 := hz.same (Same.put (o := .lst zs) (Same.refl H6) hD)
    have lz : zs.length = b.toNat := by rw [hz.length]; unfold rowsD; rw [List.length_map, List.length_map, List.length_range]
    generalize upd H6 D (.lst zs) = H7 at S7 hD7 hz7 ⊢
    have hL7 := S7 _ _ hL2
    refine ⟨q4, D, _, _, rfl, rfl, hL7, hD7, Nat.le_trans (by omega : ws.length + zs.length ≤ 2000) (by decide), ?_⟩
    have KU : TupK H7 (upd H7 q4 (.lst (ws ++ zs))) := tupK_upd hL7
    refine ⟨fun c o e => ?_, ws ++ zs, _, rfl, upd_same, ?_, by rw [List.length_append, lz]; omega⟩
    ·rw [upd_ne (fun z => by rw [z, hq4] at e; cases e)]
     exact S7 _ _ (S5 _ _ e)
    ·rw [elong]
     unfold rowsD
     rw [List.map_append]
     exact (rows_keep KU (hW.same S7)).append (rows_keep KU hz7)
  ·rintro σ H5 ⟨S5, ws, v5, rfl, hL2, hW, hwn⟩
   refine ⟨_, rfl, S3.trans S5, q4, ws, _, _, _, rfl, hL2, ?_⟩
   rw [lus, List.take_length] at hW
   exact hW
 ·rintro σ H3 ⟨S3, L, us, v3, v4, v5, rfl, hL, hT⟩
  exact ⟨_, rfl, k L us H3 S3 hL hT⟩
end
end HN
namespace HN
open PySem L2 PyProof.Rows
abbrev sMet : Stmt := top 38
section
variable {P : Program} {w : World} {K : PySem.W.Frag} {mg : Str → Option Value} {base : Heap}
theorem scMet : FnScope ["_law_net_here", "_law_taken", "_law_begin", "_law_ways", "_law_todo", "_law_here", "_law_k", "_law_way", "_law_there"] ["_law_net_here", "_law_taken", "_law_begin"] (defScope sMet) := ⟨rfl, rfl, rfl, by decide +kernel, rfl, by decide +kernel, by decide +kernel⟩
theorem ok_met {f f1 : Addr} {fd fd1 : FuncData} (F : Fun K "_law_met" "_law_met" sMet f fd) (T : Nm mg) (G1 : Fn K mg "_law_leads" sLeadsD ["_law_net_here", "_law_step"] f1 fd1) : FnOk P w K mg base CX0 2 f fd ["_law_net_here", "_law_taken", "_law_begin"] spMet := by
 have F1 : FnOk P w K mg base CX0 1 f1 fd1 ["_law_net_here", "_law_step"] spLeads := ok_leadsD G1.F T
 refine F.ok scMet (fun vs H Q E h => by obtain ⟨v, u, b, m, be, sp, tk, rfl, _⟩ := h; rfl) (fun cdv A outer s H vs Q E hr h => ?_)
 obtain ⟨v, u, b, m, be, sp, tk, rfl, hv, N, hu, hlt, few, be0, be1, k⟩ := h
 have u1 := Nat.lt_of_le_of_lt (Nat.add_le_add_left (by decide : 1 ≤ 64) _) hr.units
 have E := N.ends
 have m16 : m.toNat ≤ 16 := by have := N.m2; omega
 have b1 : be < (m.toNat : Int) := by omega
 refine ⟨_, PSl.h (l_cons ⟨(ps_set (i := 3) scMet.nd rfl (Or.inl rfl) (pe_disp (pps_cons (pv 2) (pe_tupA pa_nil) pps_nil) rfl rfl (by decide) (by decide)))⟩
  (l_cons ⟨(ps_set (i := 4) scMet.nd rfl (Or.inl rfl) (pe_lst (pa_cons (pv 2) pa_nil)))⟩
  (l_cons ⟨(ps_while PassesOwn.never (pt_cmpR (op_neL0 hr.units0) (pv 4) (pe_lstA pa_nil) (nomark _)) (PSl.h (l_cons ⟨(ps_set (i := 5) scMet.nd rfl (Or.inl rfl) (pe_bm PySem.F.plainAttrs_list PySem.F.slot_list_pop PySem.F.type_list_pop mt_popAt (pv 4) (pa_cons pe_int pa_nil)))⟩
  (l_one ⟨(ps_for PassesOwn.never rfl (pi_list (pv 1)) (pg_name (i := 6) scMet.nd rfl (Or.inl rfl)) (pss_one (PSt.h (st_forL PassesOwn.never rfl (i_list (k_lstF (a_cons k_int (a_cons ⟨pe_un un_neg pe_int⟩ a_nil)))) (pg_name (i := 7) scMet.nd rfl (Or.inl rfl)) (PSl.h (l_cons ⟨(ps_set (i := 8) scMet.nd rfl (Or.inl rfl) (pc1 G1 F1 hr (pa_cons (pv 0) (pa_cons (pe_tupA (pa_cons (pv 6) (pa_cons (pv 7) pa_nil))) pa_nil))))⟩
  (l_one ⟨(ps_cutK (ps_if (PW.pt (pw_and (pt_cmpR op_eq (pe_ix ix_tup (pv 8) pe_int (fun _ _ => rfl)) (pv 5) (nomark _)) (pw_and1 (pt_cmp (pc_dnotin u1 (pe_ix ix_tup (pv 8) pe_int (fun _ _ => rfl)) (pv 3)) rfl)))) (PSl.h (l_cons ⟨(ps_dput u1 (pv 3) (pe_ix ix_tup (pv 8) pe_int (fun _ _ => rfl)) (pe_op op_catA (pe_dget u1 (pv 3) (pv 5) (fun _ _ => rfl)) (pe_tupA (pa_cons (pe_tupA (pa_cons (pv 6) (pa_cons (pv 7) pa_nil))) pa_nil))) rfl)⟩
  (l_one ⟨(ps_expr (pe_bm PySem.F.plainAttrs_list PySem.F.slot_list_append PySem.F.type_list_append mt_append (pv 4) (pa_cons (pe_ix ix_tup (pv 8) pe_int (fun _ _ => rfl)) pa_nil)))⟩))) pss_nil))⟩)))))))⟩))))⟩
  (l_one ⟨(ps_ret (pv 3))⟩)))), ?_⟩
 obtain ⟨t, pn, ys, rfl, ht, hpn, hl, hy⟩ := netP_of hv
 intro Da hDa
 refine ⟨_, rfl, Nat.zero_le _, fun q1 H1 S1 h1 => ⟨S1 _ _ upd_same, [(.inl be, .ref q1)], rfl, (by show 1 ≤ 15; decide), ?_⟩⟩
 have S0 : Same H (upd H Da (.dK [])) := Same.put (Same.refl H) hDa
 have hDa1 : H1 Da = some (.dK []) := S1 _ _ upd_same
 have hDa2 : (upd H1 Da (.dK (mergeK [] [(.inl be, .ref q1)]))) Da = some (.dK [(.inl be, .ref q1)]) := upd_same
 have E2 : ∀ b o, H b = some o → (upd H1 Da (.dK (mergeK [] [(.inl be, .ref q1)]))) b = some o := fun b o e => by
  rw [upd_ne (fun z => by rw [z, hDa] at e; cases e)]
  exact S1 _ _ (S0 _ _ e)
 have hq1 : (upd H1 Da (.dK (mergeK [] [(.inl be, .ref q1)]))) q1 = some (.tup []) := by
  rw [upd_ne (ne_of h1 hDa1 (by intro z; cases z))]; exact h1
 generalize upd H1 Da (.dK (mergeK [] [(.inl be, .ref q1)])) = H2 at hDa2 E2 hq1 ⊢
 clear hDa1 S0 S1 h1
 have S2 : Same H H2 := E2
 refine ⟨_, rfl, (by show 1 ≤ sizeLine; decide), fun Lt hLt => ?_⟩
 have nDL : Da ≠ Lt := fun z => by rw [z, hLt] at hDa2; cases hDa2
 have S3 : Same H2 (upd H2 Lt (.lst [.int be])) := Same.put (Same.refl H2) hLt
 have hLt3 : (upd H2 Lt (.lst [.int be])) Lt = some (.lst [.int be]) := upd_same
 have hLtH : H Lt = none := by
  cases z : H Lt with
  | none => rfl
  | some o => rw [S2 _ _ z] at hLt; cases hLt
 generalize upd H2 Lt (.lst [.int be]) = H3 at S3 hLt3 ⊢
 obtain ⟨I3, C3⟩ := start_ok (sp := sp) (tk := tk) be0 b1
 have J3 : JW H H3 Da Lt ([(be, [])], [be]) := ⟨S2.trans S3, ⟨_, S3 _ _ hDa2, .cons ⟨rfl, .tup (S3 _ _ hq1) .nil⟩ .nil⟩, hLt3⟩
 clear hLt hDa2 hLt3 hq1 E2 S3 S2
 refine ⟨fun n σ H' => ∃ (c : List (Int × List Stp) × List Int) (v5 v6 v7 v8 : Option V), n = 2 * cntW c.1 + c.2.length ∧ n ≤ 40 ∧ c.1.length ≤ 40 ∧ c.1.length + cntW c.1 ≤ 40 ∧ σ = [some (.ref t), some (.ref u), some (.int be), some (.ref Da), some (.ref Lt), v5, v6, v7, v8] ∧ JW H H' Da Lt c ∧ WI m.toNat sp tk be c ∧ Clo sp tk (fun _ => False) c, ⟨_, _, none, none, none, none, rfl, ?_, by show 1 ≤ 40; decide, ?_, rfl, J3, I3, C3⟩, ?_⟩
 ·have : cntW [(be, ([] : List Stp))] ≤ 16 := by
   unfold cntW
   have := List.countP_le_length (p := fun x : Nat => (lkW [(be, ([] : List Stp))] ((x : Nat) : Int)).isNone) (l := List.range 16)
   rw [List.length_range] at this
   exact this
  show 2 * cntW [(be, ([] : List Stp))] + 1 ≤ 40
  omega
 ·have : cntW [(be, ([] : List Stp))] ≤ 16 := by
   unfold cntW
   have := List.countP_le_length (p := fun x : Nat => (lkW [(be, ([] : List Stp))] ((x : Nat) : Int)).isNone) (l := List.range 16)
   rw [List.length_range] at this
   exact this
  show 1 + cntW [(be, ([] : List Stp))] ≤ 40
  omega
 clear J3 I3 C3
 rintro n σ H6 ⟨c, v5, v6, v7, v8, rfl, hn, hcl, hcc, rfl, J6, I6, C6⟩
 refine ⟨_, rfl, Nat.zero_le _, fun q7 H7 S7 h7 => ⟨Lt, q7, _, rfl, rfl, SqL.of (S7 _ _ J6.la), SqL.of h7, _, rfl, ?_⟩⟩
 have J7 := J6.on S7
 clear J6 S7
 obtain ⟨l, td⟩ := c
 refine ite2 (fun hc => ?_) (fun hc => ?_)
 ·cases td with
  | nil => exact absurd hc (by simp)
  | cons x td =>
   refine ⟨_, fun σ' H' z => z, ?_⟩
   have la7 : H7 Lt = some (.lst ((x :: td).map V.int)) := J7.la
   refine ⟨_, rfl, .inl ⟨rfl, _, SqL.of la7⟩, Lt, _, 0, 0, V.int x, rfl, rfl, la7, by decide, by decide, PySem.StrLaws.seqIndex_nonneg (by decide) (by simp), rfl, ?_⟩
   have J8 := J7.upL (td := td) hLtH nDL
   rw [show ((x :: td).map V.int).eraseIdx 0 = td.map V.int from rfl]
   generalize upd H7 Lt (.lst (td.map V.int)) = H8 at J8 ⊢
   clear J7 la7 h7
   have I8 : WI m.toNat sp tk be (l, td) := ⟨I6.pth, I6.rng, fun y hy => I6.ahd y (List.mem_cons_of_mem _ hy), I6.beg⟩
   have hx8 : lkW l x ≠ none := I6.ahd x (by simp)
   have C8 : Clo sp tk (· = x) (l, td) := fun y hy hn' ex s hs => C6 y hy (fun z => (List.mem_cons.mp z).elim (fun e => ex e) hn') (fun z => z) s hs
   have hcc : l.length + cntW l ≤ 40 := hcc
   have n0 : 2 * cntW l + (x :: td).length = 2 * cntW l + td.length + 1 := by rw [List.length_cons]; omega
   have hn : 2 * cntW l + (x :: td).length ≤ 40 := hn
   have J8s := J8.same
   refine ⟨_, rfl, u, rfl, ⟨_, SqL.of (J8.same _ _ hu)⟩, ?_⟩
   refine for_list (K := K) (a := u) (xs := tk.map fun (i : Nat) => V.int i) (fun i σ H' => ∃ (c : List (Int × List Stp) × List Int) (v6 v7 v8 : Option V), 2 * cntW c.1 + c.2.length ≤ 2 * cntW l + td.length ∧ c.1.length + cntW c.1 ≤ 40 ∧ σ = [some (.ref t), some (.ref u), some (.int be), some (.ref Da), some (.ref Lt), some (.int x), v6, v7, v8] ∧ JW H H' Da Lt c ∧ WI m.toNat sp tk be c ∧ Clo sp tk (· = x) c ∧ lkW c.1 x ≠ none ∧ ∀ s : Stp, s.i ∈ tk.take i → (s.d = 1 ∨ s.d = -1) → frmS sp s = x → lkW c.1 (tooS sp s) ≠ none)
    ⟨(l, td), _, _, _, Nat.le_refl _, hcc, rfl, J8, I8, C8, hx8, fun s hs => absurd hs (by simp)⟩ (fun i σ H' _ ⟨_, _, _, _, _, _, _, J, _⟩ => SqL.of (J.same _ _ hu)) ?_ ?_
   ·rintro i y σ H10 hy' ⟨c1, w6, w7, w8, hm1, hc1, rfl, J10, I10, C10, hx10, P10⟩
    obtain ⟨jn, hj, rfl⟩ := mapI_at hy'
    have hjt : jn ∈ tk := List.mem_of_getElem? hj
    have hjn := hlt jn hjt
    refine ⟨_, rfl, (by show 2 ≤ sizeLine; decide), fun Lw hLw => ⟨Lw, rfl, ⟨_, SqL.of upd_same⟩, ?_⟩⟩
    have nLwL : Lw ≠ Lt := fun z => by rw [z, J10.la] at hLw; cases hLw
    have nLwD : Lw ≠ Da := fun z => by obtain ⟨kvs, e, _⟩ := J10.da; rw [z, e] at hLw; cases hLw
    have S11 : Same H10 (upd H10 Lw (.lst [.int 1, .int (-1)])) := Same.put (Same.refl H10) hLw
    have hLw11 : (upd H10 Lw (.lst [.int 1, .int (-1)])) Lw = some (.lst [.int 1, .int (-1)]) := upd_same
    refine for_list (K := K) (a := Lw) (xs := [.int 1, .int (-1)]) (fun j σ H' => ∃ (c : List (Int × List Stp) × List Int) (v7 v8 : Option V), 2 * cntW c.1 + c.2.length ≤ 2 * cntW l + td.length ∧ c.1.length + cntW c.1 ≤ 40 ∧ σ = [some (.ref t), some (.ref u), some (.int be), some (.ref Da), some (.ref Lt), some (.int x), some (.int (jn : Nat)), v7, v8] ∧ JW H H' Da Lt c ∧ H' Lw = some (.lst [.int 1, .int (-1)]) ∧ WI m.toNat sp tk be c ∧ Clo sp tk (· = x) c ∧ lkW c.1 x ≠ none ∧ (∀ s : Stp, s.i ∈ tk.take i → (s.d = 1 ∨ s.d = -1) → frmS sp s = x → lkW c.1 (tooS sp s) ≠ none) ∧ ∀ d : Int, d ∈ ([1, -1] : List Int).take j → frmS sp ⟨jn, d⟩ = x → lkW c.1 (tooS sp ⟨jn, d⟩) ≠ none)
     ⟨c1, _, _, hm1, hc1, rfl, J10.on S11, hLw11, I10, C10, hx10, P10, fun d hd => absurd hd (by simp)⟩ (fun j σ H' _ ⟨_, _, _, _, _, _, _, h, _⟩ => SqL.of h) ?_ ?_
    ·rintro j y2 σ H12 hy2 ⟨c2, w7, w8, hm2, hc2, rfl, J12, hLw12, I12, C12, hx12, P12, R12⟩
     obtain ⟨d, rfl, hd, hdj⟩ : ∃ d : Int, y2 = V.int d ∧ (d = 1 ∨ d = -1) ∧ ([1, -1] : List Int).take (j + 1) = ([1, -1] : List Int).take j ++ [d] := by
      match j, hy2 with
      | 0, h => cases h; exact ⟨1, rfl, .inl rfl, rfl⟩
      | 1, h => cases h; exact ⟨-1, rfl, .inr rfl, rfl⟩
      | j + 2, h => cases h
     have hv12 := hv.same J12.same
     refine ⟨_, rfl, _, rfl, _, rfl, (by show 2 ≤ sizeLine; decide), fun qs H13 S13 h13 => ⟨.ref t, qs, b, m, sp, ⟨jn, d⟩, sp[jn], rfl, hv12.same S13, h13, gE hjn, hd, fun q2 H14 S14 h14 => ?_⟩⟩
     have S1214 := S13.trans S14
     have J14 := J12.on S1214
     have hLw14 := S1214 _ _ hLw12
     have efr : frmS sp ⟨jn, d⟩ = frm sp[jn] d := frmS_at hjn
     have eto : tooS sp ⟨jn, d⟩ = too sp[jn] d := tooS_at hjn
     have tr := tooS_rng E (s := ⟨jn, d⟩) hjn
     have h14 : H14 q2 = some (.tup [.int (frm sp[jn] d), .int (too sp[jn] d)]) := h14
     rw [← efr, ← eto] at h14
     clear J12 hLw12 S1214 S13 S14 h13 hv12
     have next : ∀ {c : List (Int × List Stp) × List Int}, (∀ y, lkW c2.1 y ≠ none → lkW c.1 y ≠ none) → (frmS sp ⟨jn, d⟩ = x → lkW c.1 (tooS sp ⟨jn, d⟩) ≠ none) → (∀ s : Stp, s.i ∈ tk.take i → (s.d = 1 ∨ s.d = -1) → frmS sp s = x → lkW c.1 (tooS sp s) ≠ none) ∧ ∀ d : Int, d ∈ ([1, -1] : List Int).take (j + 1) → frmS sp ⟨jn, d⟩ = x → lkW c.1 (tooS sp ⟨jn, d⟩) ≠ none := fun up own => by
      refine ⟨fun s h1 h2 h3 => up _ (P12 s h1 h2 h3), fun d' hd' h => ?_⟩
      rw [hdj] at hd'
      rcases List.mem_append.mp hd' with z | z
      ·exact up _ (R12 d' z h)
      ·rw [List.mem_singleton.mp z] at h ⊢
       exact own h
     refine ⟨fun σ' H' => ∃ (c : List (Int × List Stp) × List Int), 2 * cntW c.1 + c.2.length ≤ 2 * cntW l + td.length ∧ c.1.length + cntW c.1 ≤ 40 ∧ σ' = [some (.ref t), some (.ref u), some (.int be), some (.ref Da), some (.ref Lt), some (.int x), some (.int (jn : Nat)), some (.int d), some (.ref q2)] ∧ JW H H' Da Lt c ∧ H' Lw = some (.lst [.int 1, .int (-1)]) ∧ WI m.toNat sp tk be c ∧ Clo sp tk (· = x) c ∧ lkW c.1 x ≠ none ∧ (∀ s : Stp, s.i ∈ tk.take i → (s.d = 1 ∨ s.d = -1) → frmS sp s = x → lkW c.1 (tooS sp s) ≠ none) ∧ ∀ d : Int, d ∈ ([1, -1] : List Int).take (j + 1) → frmS sp ⟨jn, d⟩ = x → lkW c.1 (tooS sp ⟨jn, d⟩) ≠ none, ?_, ?_⟩
     ·rintro σ' H' ⟨c, a1, a2, rfl, a3⟩
      exact ⟨c, _, _, a1, a2, rfl, a3⟩
     refine ⟨_, rfl, q2, _, _, _, rfl, rfl, SqT.of h14, atI_nat (j := 0) rfl, _, rfl, rfl, _, rfl, ?_⟩
     refine ite2 (fun hc0 => ?_) (fun hc0 => iteC rfl ⟨c2, hm2, hc2, rfl, J14, hLw14, I12, C12, hx12, next (fun _ h => h) fun z => absurd (decide_eq_true (by rw [z])) hc0⟩)
     have hc0 : frmS sp ⟨jn, d⟩ = x := by have := of_decide_eq_true hc0; injection this
     obtain ⟨kvs, hkv, hdw⟩ := J14.da
     refine ⟨_, rfl, q2, _, _, _, rfl, rfl, SqT.of h14, atI_nat (j := 1) rfl, _, rfl, Da, _, rfl, DGet.k (k := .inl (tooS sp ⟨jn, d⟩)) hkv, _, rfl, ?_⟩
     refine ite2 (fun hnot => ?_) (fun hnot => ⟨c2, hm2, hc2, rfl, J14, hLw14, I12, C12, hx12, next (fun _ h => h) fun _ z => hnot (by rw [hdw.none z]; rfl)⟩)
     have hnone : lkW c2.1 (tooS sp ⟨jn, d⟩) = none := by
      cases q : lkW c2.1 (tooS sp ⟨jn, d⟩) with
      | none => rfl
      | some ws =>
       obtain ⟨w, e, _⟩ := hdw.some q
       rw [e] at hnot; exact absurd hnot (by simp)
     have hmem : (⟨jn, d⟩ : Stp) ∈ stepsF sp tk x := List.mem_filter.mpr ⟨by
      rcases hd with rfl | rfl
      ·exact List.mem_append_left _ (List.mem_map.mpr ⟨jn, hjt, rfl⟩)
      ·exact List.mem_append_right _ (List.mem_map.mpr ⟨jn, hjt, rfl⟩), decide_eq_true hc0⟩
     obtain ⟨a1, a2, a3, a4, a5, a6⟩ := visit_ok E m16 hlt I12 hx12 hmem C12
     obtain ⟨ws, hws⟩ : ∃ ws, lkW c2.1 x = some ws := Option.ne_none_iff_exists'.mp hx12
     have ev : visit sp x c2 ⟨jn, d⟩ = (c2.1 ++ [(tooS sp ⟨jn, d⟩, ws ++ [⟨jn, d⟩])], c2.2 ++ [tooS sp ⟨jn, d⟩]) := by
      unfold visit
      rw [if_pos hnone, hws]; rfl
     rw [ev] at a1 a2 a3 a4 a5 a6
     obtain ⟨wv, hwv, dwv⟩ := hdw.some hws
     obtain ⟨pw, yw, rfl, hpw, hlw, rw'⟩ := rows_of dwv
     have hget : DGet H14 Da (V.int x) (some (.ref pw)) := by
      have := DGet.k (k := .inl x) hkv
      rw [hwv] at this
      exact this
     have lws : ws.length ≤ 40 := by
      have hn' : ((ws.map Stp.i).map fun n : Nat => (n : Int)).Nodup := by
       rw [List.nodup_iff_pairwise_ne, List.pairwise_map]
       exact (List.nodup_iff_pairwise_ne.mp (I12.pth x ws hws).1.one).imp fun hh e => hh (by omega)
      have := sub_len (l := (ws.map Stp.i).map fun n : Nat => (n : Int)) (k := tk.map fun n : Nat => (n : Int)) hn' fun z hz => by
       obtain ⟨i', hi', rfl⟩ := List.mem_map.mp hz
       obtain ⟨s', hs', rfl⟩ := List.mem_map.mp hi'
       exact List.mem_map.mpr ⟨_, ((I12.pth x ws hws).1.inn s' hs').1, rfl⟩
      rw [List.length_map, List.length_map, List.length_map] at this
      omega
     refine ⟨_, rfl, _, rfl, Da, .ref pw, rfl, hget, _, rfl, _, rfl, (by show 2 ≤ sizeLine; decide), fun q3 H15 S15 h15 => ⟨(by show 1 ≤ sizeLine; decide), fun q4 H16 S16 h16 => ⟨pw, q4, _, _, rfl, rfl, S16 _ _ (S15 _ _ hpw), h16, ?_, fun q5 H17 S17 h17 => ?_⟩⟩⟩
     ·rw [hlw]; exact Nat.le_trans (by show ws.length + 1 ≤ 1000; omega) (by decide)
     have S1417 := S15.trans (S16.trans S17)
     have J17 := J14.on S1417
     have hkv17 := S1417 _ _ hkv
     have hdw17 := hdw.keep (Same.tupK S1417)
     have hq2 := S1417 _ _ h14
     have lk : kvs.length ≤ 40 := by rw [hdw.len]; omega
     refine ⟨_, rfl, _, rfl, q2, _, _, _, rfl, rfl, SqT.of hq2, atI_nat (j := 1) rfl, Da, _, rfl, DPut.k (k := .inl (tooS sp ⟨jn, d⟩)) hkv17 (Nat.lt_of_lt_of_le (by omega : kvs.length < 1000) (by decide)), ?_⟩
     have hway : IsD H17 (.ref q5) (wayP (ws ++ [⟨jn, d⟩])) := by
      refine .tup h17 ?_
      rw [List.map_append]
      exact (rw'.same S1417).append (.cons (.tup (S17 _ _ (S16 _ _ h15)) (IsDs.ints (Stp.row ⟨jn, d⟩))) .nil)
     have J18 := J17.upD hDa nDL hkv17 hdw17 hnone hway
     have K18 : TupK H17 (upd H17 Da (.dK (putK kvs (.inl (tooS sp ⟨jn, d⟩)) (.ref q5)))) := fun q xs h => by rw [upd_ne (ne_of h hkv17 (by intro z; cases z))]; exact h
     have hLw18 : (upd H17 Da (.dK (putK kvs (.inl (tooS sp ⟨jn, d⟩)) (.ref q5)))) Lw = some (.lst [.int 1, .int (-1)]) := by rw [upd_ne nLwD]; exact S1417 _ _ hLw14
     have hq18 := K18 _ _ hq2
     generalize upd H17 Da (.dK (putK kvs (.inl (tooS sp ⟨jn, d⟩)) (.ref q5))) = H18 at J18 hLw18 hq18 ⊢
     have la18 : H18 Lt = some (.lst (c2.2.map V.int)) := J18.la
     have l2 : c2.2.length ≤ 40 := by omega
     refine ⟨_, rfl, .inl ⟨rfl, _, SqL.of la18⟩, _, rfl, q2, _, _, _, rfl, rfl, SqT.of hq18, atI_nat (j := 1) rfl, Lt, _, _, rfl, rfl, la18, (Nat.lt_of_lt_of_le (by rw [List.length_map]; omega : (c2.2.map V.int).length < 1000) (by decide)), ?_⟩
     have J19 := J18.upL (td := c2.2 ++ [tooS sp ⟨jn, d⟩]) hLtH nDL
     rw [List.map_append] at J19
     have J19 : JW H (upd H18 Lt (.lst (c2.2.map V.int ++ [V.int (tooS sp ⟨jn, d⟩)]))) Da Lt (c2.1 ++ [(tooS sp ⟨jn, d⟩, ws ++ [⟨jn, d⟩])], c2.2 ++ [tooS sp ⟨jn, d⟩]) := J19
     have hx19 : lkW (c2.1 ++ [(tooS sp ⟨jn, d⟩, ws ++ [⟨jn, d⟩])]) x ≠ none := by
      have := a4 x hx12
      rw [this]; exact hx12
     refine ⟨(c2.1 ++ [(tooS sp ⟨jn, d⟩, ws ++ [⟨jn, d⟩])], c2.2 ++ [tooS sp ⟨jn, d⟩]), Nat.le_trans a5 hm2, Nat.le_trans a6 hc2, rfl, J19, by rw [upd_ne nLwL]; exact hLw18, a1, a2, hx19, next (fun y hy => ?_) fun _ => a3⟩
     show lkW (c2.1 ++ [(tooS sp ⟨jn, d⟩, ws ++ [⟨jn, d⟩])]) y ≠ none
     have := a4 y hy
     rw [this]; exact hy
    ·rintro σ H12 ⟨c2, w7, w8, hm2, hc2, rfl, J12, hLw12, I12, C12, hx12, P12, R12⟩
     refine ⟨c2, _, _, _, hm2, hc2, rfl, J12, I12, C12, hx12, fun s h1 h2 h3 => ?_⟩
     rw [List.take_add_one, hj] at h1
     rcases List.mem_append.mp h1 with z | z
     ·exact P12 s z h2 h3
     ·have e : s.i = jn := List.mem_singleton.mp z
      obtain ⟨si, sd⟩ := s
      have e : si = jn := e
      subst e
      refine R12 sd ?_ h3
      have h2 : sd = 1 ∨ sd = -1 := h2
      rcases h2 with rfl | rfl
      ·exact List.mem_cons_self
      ·exact List.mem_cons_of_mem _ List.mem_cons_self
   ·rintro σ H10 ⟨c1, w6, w7, w8, hm1, hc1, rfl, J10, I10, C10, hx10, P10⟩
    refine ⟨_, ?_, c1, _, _, _, _, rfl, ?_, ?_, hc1, rfl, J10, I10, fun y hy hn' _ s hs => ?_⟩
    ·show 2 * cntW c1.1 + c1.2.length < 2 * cntW l + (x :: td).length
     omega
    ·omega
    ·omega
    ·by_cases e : y = x
     ·subst e
      obtain ⟨hs1, hs2⟩ := List.mem_filter.mp hs
      obtain ⟨h3, h4⟩ := mem_stF hs1
      exact P10 s (by rw [List.length_map, List.take_length]; exact h3) h4 (of_decide_eq_true hs2)
     ·exact C10 y hy hn' e s hs
 ·have e : td = [] := by
   cases td with
   | nil => rfl
   | cons x td => exact absurd rfl hc
  subst e
  obtain ⟨kvs, hkv, hdw⟩ := J7.da
  exact ⟨_, rfl, k Da kvs l H7 J7.same hkv hdw I6 C6⟩
end
end HN
namespace HN
open PySem L2 PyProof.Rows
abbrev sForN : Stmt := top 39
theorem refs_of6 {zs : List V} (h : ∀ x ∈ zs, ∃ a, x = V.ref a) : ∃ as : List Addr, zs = as.map V.ref := by
 induction zs with
 | nil => exact ⟨[], rfl⟩
 | cons x zs ih =>
  obtain ⟨a, rfl⟩ := h x (by simp)
  obtain ⟨as, rfl⟩ := ih fun y hy => h y (List.mem_cons_of_mem _ hy)
  exact ⟨a :: as, rfl⟩
section
variable {P : Program} {w : World} {K : PySem.W.Frag} {mg : Str → Option Value} {base : Heap}
theorem scForN : FnScope ["_law_net_here", "_law_taken", "_law_width", "_law_k", "_law_begin", "_law_end"] ["_law_net_here"] (defScope sForN) := ⟨rfl, rfl, rfl, by decide +kernel, rfl, by decide +kernel, by decide +kernel⟩
theorem ok_forN {f f1 f2 : Addr} {fd fd1 fd2 : FuncData} (F : Fun K "_law_forest" "_law_forest" sForN f fd) (T : Nm mg) (T2 : Nt mg) (ms : mg "sorted" = none) (G1 : Fn K mg "_law_leads" sLeadsD ["_law_net_here", "_law_step"] f1 fd1) (G2 : Fn K mg "_law_met" sMet ["_law_net_here", "_law_taken", "_law_begin"] f2 fd2) : FnOk P w K mg base CX0 4 f fd ["_law_net_here"] spForN := by
 have F1 : FnOk P w K mg base CX0 1 f1 fd1 ["_law_net_here", "_law_step"] spLeads := ok_leadsD G1.F T
 have F2 : FnOk P w K mg base CX0 2 f2 fd2 ["_law_net_here", "_law_taken", "_law_begin"] spMet := ok_met G2.F T G1
 refine F.ok scForN (fun vs H Q E h => by obtain ⟨v, b, m, sp, rfl, _⟩ := h; rfl) (fun cdv A outer s H vs Q E hr h => ?_)
 obtain ⟨v, b, m, sp, rfl, hv, N, k⟩ := h
 obtain ⟨t, p, ys, rfl, ht, hp, hl, hy⟩ := netP_of hv
 have few := N.few
 have E := N.ends
 have u1 := Nat.lt_of_le_of_lt (Nat.add_le_add_left (by decide : 1 ≤ 64) _) hr.units
 have hr1 : Room 1 _ := hr.mono (by decide)
 have hr2 : Room 2 _ := hr.mono (by decide)
 refine ⟨_, PSl.h (l_cons ⟨(ps_set (i := 1) scForN.nd rfl (Or.inl rfl) (pe_lst pa_nil))⟩
  (l_cons ⟨(ps_for PassesOwn.never rfl (pi_list (pe_callB call_sortedP rfl ms boot_sorted (pa_cons (pe_comp (fr := ["_law_net_here"]) (js := [0]) rfl (pi_range1 rfl T2.range (pa_cons (pe_callB call_len_seq rfl T.len PySem.boot_len (pa_cons (pe_ix ix_tup (pv 0) pe_int (fun _ _ => rfl)) pa_nil)) pa_nil)) (by decide +kernel) rfl (by decide +kernel) rfl (by show ∀ y : Str × NameKind, y ∈ _ → y.2 = NameKind.free → List.lookup y.1 (defScope sForN).names = some NameKind.cell; decide +kernel) (by decide +kernel) rfl (by decide +kernel) (fun _ _ _ _ _ => ⟨(pe_tupA (pa_cons (pe_op op_sub (pe_ix (r := rIxT K) ix_tup (pe_ix (r := rIxT K) ix_tup (pe_ix (r := rIxT K) ix_tup (pv 1) pe_int (fun _ _ => rfl)) (pv 0) (fun _ _ => rfl)) pe_int (fun _ _ => rfl)) (pe_ix (r := rIxT K) ix_tup (pe_ix (r := rIxT K) ix_tup (pe_ix (r := rIxT K) ix_tup (pv 1) pe_int (fun _ _ => rfl)) (pv 0) (fun _ _ => rfl)) pe_int (fun _ _ => rfl))) (pa_cons (pv 0) pa_nil))), pts_nil⟩)) pa_nil))) (pg_tup rfl (pgs_cons (pg_name (i := 2) scForN.nd rfl (Or.inl rfl)) (pgs_cons (pg_name (i := 3) scForN.nd rfl (Or.inl rfl)) pgs_nil))) (PSl.h (l_cons ⟨(ps_asg (pc1 G1 F1 hr1 (pa_cons (pv 0) (pa_cons (pe_tupA (pa_cons (pv 3) (pa_cons pe_int pa_nil))) pa_nil))) (pg_tup rfl (pgs_cons (pg_name (i := 4) scForN.nd rfl (Or.inl rfl)) (pgs_cons (pg_name (i := 5) scForN.nd rfl (Or.inl rfl)) pgs_nil))))⟩
  (l_one ⟨(ps_if (pt_cmp (pc_dnotin u1 (pv 5) (pc1 G2 F2 hr2 (pa_cons (pv 0) (pa_cons (pv 1) (pa_cons (pv 4) pa_nil))))) rfl) (pss_one (ps_expr (pe_bm PySem.F.plainAttrs_list PySem.F.slot_list_append PySem.F.type_list_append mt_append (pv 1) (pa_cons (pv 3) pa_nil)))) pss_nil)⟩))))⟩
  (l_one ⟨(ps_ret (pv 1))⟩))), ?_⟩
 refine ⟨Nat.zero_le _, fun Lt hLt => ?_⟩
 have S2 : Same H (upd H Lt (.lst [])) := Same.put (Same.refl H) hLt
 have hLt2 : (upd H Lt (.lst [])) Lt = some (.lst []) := upd_same
 generalize upd H Lt (.lst []) = H2 at S2 hLt2 ⊢
 have hv2 := hv.same S2
 refine ⟨_, rfl, t, _, _, _, rfl, rfl, SqT.of (S2 _ _ ht), atI_nat (j := 2) rfl, p, _, rfl, .inr (SqT.of (S2 _ _ hp)), _, rfl, by omega, by omega, ?_⟩
 refine comp_range (n := ((ys.length : Int)).toNat) (fun i zs HC => Same H2 HC ∧ zs.length = i ∧ ∀ (j : Nat) x, zs[j]? = some x → ∃ a, x = .ref a ∧ HC a = some (.tup [.int (wkey sp j).1, .int (wkey sp j).2])) ⟨Same.refl H2, rfl, fun j x h => by simp at h⟩ (fun i zs HC hi ⟨_, e2, _⟩ => Nat.le_of_eq e2) (small_le (by omega)) (fun i ws HC hi ⟨S, e2', e3⟩ => ?_) (fun ws HC ⟨S, e2', e3⟩ Lo hLo => ?_)
 ·refine tNoIf_go ?_
  rw [Int.zero_add]
  have hin : i < sp.length := by omega
  obtain ⟨t', p', ys', e0, htA, hpA, hlA, hyA⟩ := netP_of (hv2.same S)
  cases e0
  obtain ⟨q, hq, hq2⟩ := hyA i _ (sAt_of hin)
  refine ⟨_, rfl, t, _, _, _, rfl, rfl, SqT.of htA, atI_nat (j := 2) rfl, _, rfl, p', _, _, _, rfl, rfl, SqT.of hpA, atI_nat (j := i) hq, q, _, _, _, rfl, rfl, SqT.of hq2, atI_nat (j := 3) rfl, ?_⟩
  refine ⟨_, rfl, t, _, _, _, rfl, rfl, SqT.of htA, atI_nat (j := 2) rfl, _, rfl, p', _, _, _, rfl, rfl, SqT.of hpA, atI_nat (j := i) hq, q, _, _, _, rfl, rfl, SqT.of hq2, atI_nat (j := 2) rfl, _, _, rfl, rfl, _, rfl, (by show 2 ≤ sizeLine; decide), fun a HD SD hD => ⟨S.trans SD, by rw [List.length_append, e2']; rfl, fun j x hx => ?_⟩⟩
  by_cases hj : j < ws.length
  ·rw [List.getElem?_append_left hj] at hx
   obtain ⟨a', rfl, h'⟩ := e3 j x hx
   exact ⟨a', rfl, SD _ _ h'⟩
  ·rw [List.getElem?_append_right (by omega)] at hx
   have hz : j = ws.length := by have := (List.getElem?_eq_some_iff.mp hx).1; simp only [List.length_singleton] at this; omega
   subst hz
   rw [Nat.sub_self] at hx
   cases hx
   exact ⟨a, rfl, by rw [hD, e2']; rfl⟩
 rw [Int.toNat_natCast, hl] at e2'
 obtain ⟨as, rfl⟩ := refs_of6 (zs := ws) fun x hx => by
  obtain ⟨j, hj⟩ := List.getElem?_of_mem hx
  obtain ⟨a, r, _⟩ := e3 j x hj
  exact ⟨a, r⟩
 rw [List.length_map] at e2'
 have S23 := S.trans (Same.put (Same.refl HC) hLo (o := .lst (as.map V.ref)))
 have hLo3 : (upd HC Lo (.lst (as.map V.ref))) Lo = some (.lst (as.map V.ref)) := upd_same
 have e4 : ∀ (j : Nat) a, as[j]? = some a → (upd HC Lo (.lst (as.map V.ref))) a = some (.tup [.int (wkey sp j).1, .int (wkey sp j).2]) := fun j a h => by
  obtain ⟨a', r, q⟩ := e3 j (.ref a) (by rw [List.getElem?_map, h]; rfl)
  cases r
  rw [upd_ne (ne_of_none q hLo)]; exact q
 generalize upd HC Lo (.lst (as.map V.ref)) = H3 at S23 hLo3 e4 ⊢
 clear e3 S hLo
 have ln : ((List.range sp.length).map (wkey sp)).length = sp.length := by rw [List.length_map, List.length_range]
 refine ⟨Lo, as, (List.range sp.length).map (wkey sp), rfl, SqL.of hLo3, by rw [ln]; exact e2', fun i a kk h1 h2 => ?_, wkey_nodup sp _, by rw [ln]; omega, fun Ls π hLs pm pw => ?_⟩
 ·rw [List.getElem?_map] at h2
  obtain ⟨j, hj, rfl⟩ := Option.map_eq_some_iff.mp h2
  have hi : i < sp.length := by have := (List.getElem?_eq_some_iff.mp hj).1; rw [List.length_range] at this; exact this
  rw [List.getElem?_range hi] at hj
  cases hj
  exact e4 i a h1
 rw [ln] at pm
 have hlt : ∀ i ∈ π, i < sp.length := fun i hi => List.mem_range.mp (pm.mem_iff.mp hi)
 have lπ : π.length = sp.length := by rw [pm.length_eq, List.length_range]
 have SA := Same.put (Same.refl H3) hLs (o := .lst (π.map fun i => V.ref (as.getD i 0)))
 have hLs5 : (upd H3 Ls (.lst (π.map fun i => V.ref (as.getD i 0)))) Ls = some (.lst (π.map fun i => V.ref (as.getD i 0))) := upd_same
 have hLt3 := S23 _ _ hLt2
 have nLs : Ls ≠ Lt := fun z => by rw [z, hLt3] at hLs; cases hLs
 have e5 : ∀ (j : Nat) a, as[j]? = some a → (upd H3 Ls (.lst (π.map fun i => V.ref (as.getD i 0)))) a = some (.tup [.int (wkey sp j).1, .int (wkey sp j).2]) := fun j a h => SA _ _ (e4 j a h)
 have S5 : Same H2 (upd H3 Ls (.lst (π.map fun i => V.ref (as.getD i 0)))) := S23.trans SA
 have hLt5 := SA _ _ hLt3
 generalize upd H3 Ls (.lst (π.map fun i => V.ref (as.getD i 0))) = H5 at hLs5 e5 S5 hLt5 ⊢
 clear SA S23 e4 hLo3 hLt3 hLs hLt2
 have S05 := S2.trans S5
 refine ⟨Ls, rfl, ⟨_, SqL.of hLs5⟩, ?_⟩
 refine for_list (K := K) (a := Ls) (xs := π.map fun i => V.ref (as.getD i 0)) (fun i σ H' => ∃ (gs : List Int) (tk : List Nat) (v2 v3 v4 v5 : Option V), σ = [some (.ref t), some (.ref Lt), v2, v3, v4, v5] ∧ Same H H' ∧ TupK H5 H' ∧ H' Ls = some (.lst (π.map fun i => V.ref (as.getD i 0))) ∧ H' Lt = some (.lst (tk.map fun (i : Nat) => V.int i)) ∧ Gd m.toNat sp gs tk ∧ tk.length ≤ i ∧ ((π.take i).foldl (stepG sp) (grp0 m.toNat, [])) = (gs, tk))
  ⟨grp0 m.toNat, [], none, none, none, none, rfl, S05, TupK.refl H5, hLs5, hLt5, Gd.start _ _, Nat.le_refl _, rfl⟩ (fun i σ H' _ ⟨_, _, _, _, _, _, _, _, _, h, _⟩ => SqL.of h) ?_ ?_
 ·rintro i x σ H6 hx ⟨gs, tk, v2, v3, v4, v5, rfl, S6, K6, hLs6, hLt6, G, htk, hfold⟩
  have hi : i < π.length := by have := (List.getElem?_eq_some_iff.mp hx).1; rw [List.length_map] at this; exact this
  rw [List.getElem?_map, gE hi] at hx
  cases hx
  obtain ⟨j, hj⟩ : ∃ j, j = π[i] := ⟨_, rfl⟩
  rw [← hj]
  have hjn : j < sp.length := hlt j (by rw [hj]; exact List.getElem_mem hi)
  have hja : j < as.length := by omega
  have ea : as.getD j 0 = as[j] := by rw [List.getD_eq_getElem?_getD, gE hja]; rfl
  have h6 : H6 (as.getD j 0) = some (.tup [.int (wkey sp j).1, .int (wkey sp j).2]) := by rw [ea]; exact K6 _ _ (e5 j _ (gE hja))
  have hv6 := hv.same S6
  obtain ⟨s0, s1, g0, g1⟩ := E _ (sAt_mem hjn)
  refine ⟨as.getD j 0, _, rfl, SqT.of h6, rfl, _, _, rfl, _, _, rfl, rfl, ?_⟩
  refine ⟨_, rfl, _, rfl, (by show 2 ≤ sizeLine; decide), fun qs H7 S7 h7 => ⟨.ref t, qs, b, m, sp, ⟨j, 1⟩, sAt sp j, rfl, hv6.same S7, h7, sAt_of hjn, .inl rfl, fun q2 H8 S8 h8 => ?_⟩⟩
  have h8 : H8 q2 = some (.tup [.int (sAt sp j).s, .int (sAt sp j).g]) := h8
  refine ⟨q2, _, rfl, SqT.of h8, rfl, _, _, rfl, _, _, rfl, rfl, ?_⟩
  have S78 := S7.trans S8
  have mt : (m.toNat : Int) = m := by have := N.m1; omega
  refine ⟨_, rfl, _, rfl, _, rfl, _, rfl, .ref t, Lt, b, m, (sAt sp j).s, sp, tk, rfl, hv6.same S78, N, S78 _ _ hLt6, G.acy.nodup.2, by omega, s0, by omega, fun Da kvs c H9 S9 hD hdw I C => ?_⟩
  have S69 := S78.trans S9
  have hLt9 := S69 _ _ hLt6
  have hLs9 := S69 _ _ hLs6
  have K9 : TupK H5 H9 := K6.trans (Same.tupK S69)
  have S09 := S6.trans S69
  have fold1 : ((π.take (i + 1)).foldl (stepG sp) (grp0 m.toNat, [])) = stepG sp (gs, tk) j := by
   rw [List.take_add_one, gE hi, List.foldl_append, hfold, hj]; rfl
  have G1 := G.step E hjn
  refine ⟨Da, _, rfl, DGet.k (k := .inl (sAt sp j).g) hD, _, rfl, ?_⟩
  refine ite2 (fun hnot => ?_) (fun hnot => ?_)
  ·have hnone : lkW c (sAt sp j).g = none := by
    cases q : lkW c (sAt sp j).g with
    | none => rfl
    | some ws =>
     obtain ⟨w, e, _⟩ := hdw.some q
     rw [e] at hnot; exact absurd hnot (by simp)
   have hne : ¬ tm gs (sAt sp j).s = tm gs (sAt sp j).g := fun z => left_of G.acy.nodup.2 (G.held _ _ s0 s1 g0 g1 z) I C hnone rfl
   have es : stepG sp (gs, tk) j = (joinG gs (tm gs (sAt sp j).s) (tm gs (sAt sp j).g), tk ++ [j]) := by unfold stepG; exact if_neg hne
   rw [es] at fold1 G1
   refine ⟨_, rfl, .inl ⟨rfl, _, SqL.of hLt9⟩, _, rfl, Lt, _, _, rfl, rfl, hLt9, (Nat.lt_of_lt_of_le (by rw [List.length_map]; omega : _ < 1000) (by decide)), ?_⟩
   refine ⟨_, tk ++ [j], _, _, _, _, rfl, fun a o e => ?_, K9.trans (tupK_upd hLt9), by rw [upd_ne nLs]; exact hLs9, ?_, G1, by rw [List.length_append]; show tk.length + 1 ≤ i + 1; omega, fold1⟩
   ·rw [upd_ne (fun z => by rw [z, hLt] at e; cases e)]
    exact S09 _ _ e
   ·rw [upd_same, List.map_append]; rfl
  ·have he : tm gs (sAt sp j).s = tm gs (sAt sp j).g := by
    cases q : lkW c (sAt sp j).g with
    | none => exact absurd (by rw [hdw.none q]; rfl) hnot
    | some ws =>
     have P := (I.pth _ ws q).1
     exact along_tm (fun i hi => ⟨G.acy.nodup.2 i hi, G.eq i hi⟩) ws _ _ (fun s hs => ⟨(P.inn s hs).1, (P.inn s hs).2.2⟩) P.alo
   have es : stepG sp (gs, tk) j = (gs, tk) := by unfold stepG; exact if_pos he
   rw [es] at fold1
   exact ⟨gs, tk, _, _, _, _, rfl, S09, K9, hLs9, hLt9, G, by omega, fold1⟩
 ·rintro σ H6 ⟨gs, tk, v2, v3, v4, v5, rfl, S6, K6, hLs6, hLt6, G, htk, hfold⟩
  rw [List.length_map, List.take_length] at hfold
  refine ⟨_, rfl, k Lt tk gs H6 S6 hLt6 G fun i hi => ?_⟩
  have := gone_meets E π (grp0 m.toNat) [] (grp0_len _) hlt i (pm.mem_iff.mpr (List.mem_range.mpr hi))
  rw [hfold] at this
  exact this
end
end HN
namespace HN
open PySem L2 PyProof.Rows
abbrev sRingsL : Stmt := top 40
section
variable {P : Program} {w : World} {K : PySem.W.Frag} {mg : Str → Option Value} {base : Heap}
theorem scRingsL : FnScope ["_law_net_here", "_law_taken", "_law_rings_here", "_law_k", "_law_begin", "_law_end"] ["_law_net_here", "_law_taken"] (defScope sRingsL) := ⟨rfl, rfl, rfl, by decide +kernel, rfl, by decide +kernel, by decide +kernel⟩
theorem ok_ringsL {f f1 f2 : Addr} {fd fd1 fd2 : FuncData} (F : Fun K "_law_rings" "_law_rings" sRingsL f fd) (T : Nm mg) (T2 : Nt mg) (G1 : Fn K mg "_law_leads" sLeadsD ["_law_net_here", "_law_step"] f1 fd1) (G2 : Fn K mg "_law_met" sMet ["_law_net_here", "_law_taken", "_law_begin"] f2 fd2) : FnOk P w K mg base CX0 4 f fd ["_law_net_here", "_law_taken"] spRingsL := by
 have F1 : FnOk P w K mg base CX0 1 f1 fd1 ["_law_net_here", "_law_step"] spLeads := ok_leadsD G1.F T
 have F2 : FnOk P w K mg base CX0 2 f2 fd2 ["_law_net_here", "_law_taken", "_law_begin"] spMet := ok_met G2.F T G1
 refine F.ok scRingsL (fun vs H Q E h => by obtain ⟨v, u, b, m, sp, tk, gs, rfl, _⟩ := h; rfl) (fun cdv A outer s H vs Q E hr h => ?_)
 obtain ⟨v, u, b, m, sp, tk, gs, rfl, hv, N, hu, G, meets, k⟩ := h
 obtain ⟨t, p, ys, rfl, ht, hp, hl, hy⟩ := netP_of hv
 have few := N.few
 have E := N.ends
 have m1 := N.m1
 have m2 := N.m2
 have ltk := G.few (by omega)
 have mt : (m.toNat : Int) = m := by omega
 have u1 := Nat.lt_of_le_of_lt (Nat.add_le_add_left (by decide : 1 ≤ 64) _) hr.units
 have hr1 : Room 1 _ := hr.mono (by decide)
 have hr2 : Room 2 _ := hr.mono (by decide)
 refine ⟨_, PSl.h (l_cons ⟨(ps_set (i := 2) scRingsL.nd rfl (Or.inl rfl) (pe_lst pa_nil))⟩
  (l_cons ⟨(ps_for PassesOwn.never rfl (pi_range1 rfl T2.range (pa_cons (pe_callB call_len_seq rfl T.len PySem.boot_len (pa_cons (pe_ix ix_tup (pv 0) pe_int (fun _ _ => rfl)) pa_nil)) pa_nil)) (pg_name (i := 3) scRingsL.nd rfl (Or.inl rfl)) (pss_one (ps_if (pt_cmpR op_notIn_seq (pv 3) (pv 1) rfl) (PSl.h (l_cons ⟨(ps_asg (pc1 G1 F1 hr1 (pa_cons (pv 0) (pa_cons (pe_tupA (pa_cons (pv 3) (pa_cons pe_int pa_nil))) pa_nil))) (pg_tup rfl (pgs_cons (pg_name (i := 4) scRingsL.nd rfl (Or.inl rfl)) (pgs_cons (pg_name (i := 5) scRingsL.nd rfl (Or.inl rfl)) pgs_nil))))⟩
  (l_one ⟨(ps_expr (pe_bm PySem.F.plainAttrs_list PySem.F.slot_list_append PySem.F.type_list_append mt_append (pv 2) (pa_cons (pe_op op_catA (pe_tupA (pa_cons (pe_tupA (pa_cons (pv 3) (pa_cons pe_int pa_nil))) pa_nil)) (pe_dget u1 (pc1 G2 F2 hr2 (pa_cons (pv 0) (pa_cons (pv 1) (pa_cons (pv 5) pa_nil)))) (pv 4) (fun _ _ => rfl))) pa_nil)))⟩))) pss_nil)))⟩
  (l_one ⟨(ps_ret (pv 2))⟩))), ?_⟩
 refine ⟨Nat.zero_le _, fun Lt hLt => ?_⟩
 have S2 : Same H (upd H Lt (.lst [])) := Same.put (Same.refl H) hLt
 have hLt2 : (upd H Lt (.lst [])) Lt = some (.lst []) := upd_same
 generalize upd H Lt (.lst []) = H2 at S2 hLt2 ⊢
 refine ⟨_, rfl, t, _, _, _, rfl, rfl, SqT.of (S2 _ _ ht), atI_nat (j := 2) rfl, p, _, rfl, .inr (SqT.of (S2 _ _ hp)), _, rfl, by omega, by omega, ?_⟩
 refine for_range (n := ((ys.length : Int)).toNat) (fun i σ H' => Same H H' ∧ ∃ (rl : List V) (rg : List (Nat × List Stp)) (v3 v4 v5 : Option V), σ = [some (.ref t), some (.ref u), some (.ref Lt), v3, v4, v5] ∧ H' Lt = some (.lst rl) ∧ rl.length ≤ i ∧ IsDs H' rl (rg.map fun q => wayP q.2) ∧ (∀ q ∈ rg, RK sp tk q) ∧ rg.map (·.1) = (List.range i).filter fun k => !(decide (k ∈ tk))) ⟨S2, [], [], none, none, none, rfl, hLt2, Nat.le_refl _, .nil, fun _ h => absurd h (by simp), rfl⟩ ?_ ?_
 ·rintro i σ H3 hi ⟨S3, rl, rg, v3, v4, v5, rfl, hLt3, lrl, hrs, hrk, hks⟩
  rw [Int.zero_add]
  have hin : i < sp.length := by omega
  have ef : (List.range (i + 1)).filter (fun k => !(decide (k ∈ tk))) = (List.range i).filter (fun k => !(decide (k ∈ tk))) ++ (if i ∈ tk then [] else [i]) := by
   rw [List.range_succ, List.filter_append]
   congr 1
   rw [List.filter_cons, List.filter_nil]
   by_cases c : i ∈ tk
   ·rw [if_pos c, decide_eq_true c]; rfl
   ·rw [if_neg c, decide_eq_false c]; rfl
  refine ⟨_, rfl, _, rfl, u, _, rfl, .inl (SqL.of (S3 _ _ hu)), rfl, (by rw [List.all_map]; exact List.all_eq_true.mpr fun _ _ => rfl), _, rfl, ?_⟩
  rw [inV_nat]
  show if (!(decide (i ∈ tk))) = true then _ else _
  rw [ef]
  refine ite2 (fun hc => ?_) (fun hc => ?_)
  rotate_left
  ·have c : i ∈ tk := by simpa using hc
   rw [if_pos c, List.append_nil]
   exact ⟨S3, rl, rg, _, _, _, rfl, hLt3, by omega, hrs, hrk, hks⟩
  have c : i ∉ tk := by simpa using hc
  rw [if_neg c]
  have hv3 := hv.same S3
  obtain ⟨s0, s1, g0, g1⟩ := E _ (sAt_mem hin)
  refine ⟨_, rfl, _, rfl, (by show 2 ≤ sizeLine; decide), fun qs H7 S7 h7 => ⟨.ref t, qs, b, m, sp, ⟨i, 1⟩, sAt sp i, rfl, hv3.same S7, h7, sAt_of hin, .inl rfl, fun q2 H8 S8 h8 => ?_⟩⟩
  have h8 : H8 q2 = some (.tup [.int (sAt sp i).s, .int (sAt sp i).g]) := h8
  refine ⟨q2, _, rfl, SqT.of h8, rfl, _, _, rfl, _, _, rfl, rfl, ?_⟩
  have S38 := S7.trans S8
  refine ⟨_, rfl, .inl ⟨rfl, _, SqL.of (S38 _ _ hLt3)⟩, _, rfl, (by show 2 ≤ sizeLine; decide), fun qa Ha Sa ha => ⟨(by show 1 ≤ sizeLine; decide), fun qb Hb Sb hb => ?_⟩⟩
  have S3b := S38.trans (Sa.trans Sb)
  have S0b := S3.trans S3b
  refine ⟨_, rfl, _, rfl, _, rfl, .ref t, u, b, m, (sAt sp i).g, sp, tk, rfl, hv.same S0b, N, S0b _ _ hu, G.acy.nodup.2, by omega, g0, by omega, fun Da kvs cc H9 S9 hD hdw I C => ?_⟩
  have kn : lkW cc (sAt sp i).s ≠ none := fun z => left_of G.acy.nodup.2 (G.held _ _ g0 g1 s0 s1 (meets i hin).symm) I C z rfl
  obtain ⟨ws, hws⟩ : ∃ ws, lkW cc (sAt sp i).s = some ws := Option.ne_none_iff_exists'.mp kn
  have Pw := (I.pth _ ws hws).1
  obtain ⟨wv, hwv, dwv⟩ := hdw.some hws
  obtain ⟨pw, yw, rfl, hpw, hlw, rw'⟩ := rows_of dwv
  have hget : DGet H9 Da (V.int (sAt sp i).s) (some (.ref pw)) := by
   have := DGet.k (k := .inl (sAt sp i).s) hD
   rw [hwv] at this
   exact this
  have K : RK sp tk (i, ⟨i, 1⟩ :: ws) := ⟨hin, c, ws, rfl, Pw⟩
  have lws : ws.length ≤ 17 := by
   have := (K.rg N (by omega)).few
   rw [List.length_cons] at this
   omega
  refine ⟨_, rfl, Da, .ref pw, rfl, hget, qb, pw, _, _, rfl, rfl, S9 _ _ hb, hpw, (by show 1 + yw.length ≤ sizeLine; rw [hlw]; exact Nat.le_trans (by omega : 1 + ws.length ≤ 1000) (by decide)), fun qc Hc Sc hc' => ?_⟩
  have S9c := S9.trans Sc
  have S3c := S3b.trans S9c
  have hLtc := S3c _ _ hLt3
  refine ⟨Lt, rl, _, rfl, rfl, hLtc, (Nat.lt_of_lt_of_le (by omega : rl.length < 1000) (by decide : 1000 ≤ sizeLine)), ?_⟩
  have hw' : IsD Hc (.ref qc) (wayP (⟨i, 1⟩ :: ws)) := .tup hc' (.cons (.tup (S9c _ _ (Sb _ _ ha)) (IsDs.ints [(i : Int), 1])) (rw'.same Sc))
  have KU : TupK Hc (upd Hc Lt (.lst (rl ++ [.ref qc]))) := tupK_upd hLtc
  refine ⟨fun a o e => ?_, rl ++ [.ref qc], rg ++ [(i, ⟨i, 1⟩ :: ws)], _, _, _, rfl, upd_same, by rw [List.length_append]; show rl.length + 1 ≤ i + 1; omega, ?_, fun q hq => ?_, by rw [List.map_append, hks]; rfl⟩
  ·rw [upd_ne (fun z => by rw [z, hLt] at e; cases e)]
   exact S3c _ _ (S3 _ _ e)
  ·rw [List.map_append]
   exact (IsDs.keepP KU (hrs.same S3c) (pls_map rg fun q _ => pl_rows _ _)).append (.cons (IsD.keepP KU hw' (pl_rows _ _)) .nil)
  ·rcases List.mem_append.mp hq with hq | hq
   ·exact hrk q hq
   ·rw [List.mem_singleton.mp hq]; exact K
 ·rintro σ H3 ⟨S3, rl, rg, v3, v4, v5, rfl, hLt3, lrl, hrs, hrk, hks⟩
  refine ⟨_, rfl, k Lt rl rg H3 S3 hLt3 hrs hrk ?_⟩
  rw [hks]
  unfold restK
  rw [Int.toNat_natCast, hl]
end
end HN
namespace HN
open PySem L2 PyProof.Rows
abbrev sFull : Stmt := top 41
section
variable {P : Program} {w : World} {K : PySem.W.Frag} {mg : Str → Option Value} {base : Heap}
theorem scFull : FnScope ["_law_net_here", "_law_bounds_here", "_law_taken", "_law_rings_here", "_law_ring", "_law_first", "_law_last", "_law_k", "_law_low", "_law_high", "_law_at", "_law_one", "_law_other"] ["_law_net_here", "_law_bounds_here", "_law_taken", "_law_rings_here"] (defScope sFull) := ⟨rfl, rfl, rfl, by decide +kernel, rfl, by decide +kernel, by decide +kernel⟩
theorem ok_full0 {f : Addr} {fd : FuncData} : FnOk P w K mg base CX0 2 f fd ["_law_net_here", "_law_bounds_here", "_law_taken", "_law_rings_here"] (spFull 0) :=
 ⟨fun vs H Q E h => by obtain ⟨v, vb, u1, u2, b, m, sp, tk, rg, rl, bs, rfl, _⟩ := h; rfl, fun A outer s H args us vs Q E _ _ _ _ h => by
  obtain ⟨v, vb, u1, u2, b, m, sp, tk, rg, rl, bs, _, h0, _⟩ := h
  exact absurd h0 (Nat.not_lt_zero _)⟩
theorem ok_full1 {dd : Nat} {f f1 : Addr} {fd fd1 : FuncData} (T : Nm mg) (G1 : Fn K mg "_law_beats" sBeatsL ["_law_net_here", "_law_bounds_here", "_law_ring"] f1 fd1) (G2 : Fn K mg "_law_full" sFull ["_law_net_here", "_law_bounds_here", "_law_taken", "_law_rings_here"] f fd) (F2 : FnOk P w K mg base CX0 (2 + dd) f fd ["_law_net_here", "_law_bounds_here", "_law_taken", "_law_rings_here"] (spFull dd)) : FnOk P w K mg base CX0 (2 + dd + 1) f fd ["_law_net_here", "_law_bounds_here", "_law_taken", "_law_rings_here"] (spFull (dd + 1)) := by
 have F1 : FnOk P w K mg base CX0 1 f1 fd1 ["_law_net_here", "_law_bounds_here", "_law_ring"] spBeats := ok_beatsL G1.F
 refine G2.F.ok scFull (fun vs H Q E h => by obtain ⟨v, vb, u1, u2, b, m, sp, tk, rg, rl, bs, rfl, _⟩ := h; rfl) (fun cdv A outer s H vs Q E hr h => ?_)
 obtain ⟨v, vb, u1, u2, b, m, sp, tk, rg, rl, bs, rfl, hdd, a, k⟩ := h
 have hr1 : Room 1 _ := hr.mono (by omega)
 obtain ⟨t, pn, ys, rfl, ht, hpn, hl, hy⟩ := netP_of a.net
 obtain ⟨pb, yb, rfl, hpb, hlyb, rb⟩ := rows_of a.bnd
 have N := a.N
 have O := a.ob
 have f := a.ff
 have few := N.few
 have m2 := N.m2
 have fw := f.few
 have lb := O.len
 have hb0 : 0 < b := by have := N.b1; omega
 have hb61 : b < 10 ^ 61 := by have := N.b2; omega
 have lrl : rl.length = rg.length := by rw [a.rs.length, List.length_map]
 have lrg : rg.length ≤ 40 := by
  have hn : ((rg.map (·.1)).map fun n : Nat => (n : Int)).Nodup := by
   rw [List.nodup_iff_pairwise_ne, List.pairwise_map]
   exact (List.nodup_iff_pairwise_ne.mp f.one).imp fun hh e => hh (by omega)
  have := sub_len (l := (rg.map (·.1)).map fun n : Nat => (n : Int)) (k := (List.range sp.length).map fun n : Nat => (n : Int)) hn fun z hz => by
   obtain ⟨i, hi, rfl⟩ := List.mem_map.mp hz
   obtain ⟨q, hq, rfl⟩ := List.mem_map.mp hi
   exact List.mem_map.mpr ⟨_, List.mem_range.mpr (f.rk q hq).lt, rfl⟩
  rw [List.length_map, List.length_map, List.length_map, List.length_range] at this
  omega
 have pos : 1 ≤ prodB bs tk := prodB_pos tk fun j hj => by have := O.lo j (f.acy.nodup.2 j hj); unfold wB; omega
 refine ⟨_, PSl.h (l_cons ⟨(ps_for PassesOwn.never rfl (pi_list (pv 3)) (pg_name (i := 4) scFull.nd rfl (Or.inl rfl)) (PSl.h (l_cons ⟨(ps_asg (pc1 G1 F1 hr1 (pa_cons (pv 0) (pa_cons (pv 1) (pa_cons (pv 4) pa_nil)))) (pg_tup rfl (pgs_cons (pg_name (i := 5) scFull.nd rfl (Or.inl rfl)) (pgs_cons (pg_name (i := 6) scFull.nd rfl (Or.inl rfl)) pgs_nil))))⟩
  (l_one ⟨(ps_if (pt_cmpR op_gt (pv 5) (pv 6) (nomark _)) (pss_one (ps_ret (pe_tupA (pa_cons pe_str (pa_cons (pv 4) pa_nil))))) pss_nil)⟩))))⟩
  (l_cons ⟨(ps_for PassesOwn.never rfl (pi_list (pv 2)) (pg_name (i := 7) scFull.nd rfl (Or.inl rfl)) (PSl.h (l_cons ⟨(ps_asg (pe_ix ix_tup (pv 1) (pv 7) (fun _ _ => rfl)) (pg_tup rfl (pgs_cons (pg_name (i := 8) scFull.nd rfl (Or.inl rfl)) (pgs_cons (pg_name (i := 9) scFull.nd rfl (Or.inl rfl)) pgs_nil))))⟩
  (l_one ⟨(ps_if (pt_cmpR op_lt (pv 8) (pv 9) (nomark _)) (PSl.h (l_cons ⟨(ps_set (i := 10) scFull.nd rfl (Or.inl rfl) (pe_op op_fdiv (pe_op op_add (pv 8) (pv 9)) pe_int))⟩
  (l_cons ⟨(ps_set (i := 11) scFull.nd rfl (Or.inl rfl) (pc1 G2 F2 hr (pa_cons (pv 0) (pa_cons (pe_op op_catA (pe_op op_catA (pe_slice sl_tupN (pv 1) po_none (po_some (pv 7))) (pe_tupA (pa_cons (pe_tupA (pa_cons (pv 8) (pa_cons (pv 10) pa_nil))) pa_nil))) (pe_slice sl_tupN (pv 1) (po_some (pe_op op_add (pv 7) pe_int)) po_none)) (pa_cons (pv 2) (pa_cons (pv 3) pa_nil))))))⟩
  (l_cons ⟨(ps_set (i := 12) scFull.nd rfl (Or.inl rfl) (pc1 G2 F2 hr (pa_cons (pv 0) (pa_cons (pe_op op_catA (pe_op op_catA (pe_slice sl_tupN (pv 1) po_none (po_some (pv 7))) (pe_tupA (pa_cons (pe_tupA (pa_cons (pe_op op_add (pv 10) pe_int) (pa_cons (pv 9) pa_nil))) pa_nil))) (pe_slice sl_tupN (pv 1) (po_some (pe_op op_add (pv 7) pe_int)) po_none)) (pa_cons (pv 2) (pa_cons (pv 3) pa_nil))))))⟩
  (l_one ⟨(ps_ret (pe_tupA (pa_cons pe_str (pa_cons (pv 7) (pa_cons (pv 10) (pa_cons (pv 11) (pa_cons (pv 12) pa_nil)))))))⟩))))) pss_nil)⟩))))⟩
  (l_one ⟨(ps_ret (pe_tupA (pa_cons pe_str (pa_cons (pe_callTy call_tupA rfl T.ttup boot_tuple (pa_cons (pe_comp (fr := ["_law_net_here"]) (js := [0]) rfl (pi_list (pv 3)) (by decide +kernel) rfl (by decide +kernel) rfl (by show ∀ y : Str × NameKind, y ∈ _ → y.2 = NameKind.free → List.lookup y.1 (defScope sFull).names = some NameKind.cell; decide +kernel) (by decide +kernel) rfl (by decide +kernel) (fun _ _ _ _ _ => ⟨(pe_tupA (pa_cons (pe_ix (r := rIxT K) ix_tup (pe_ix (r := rIxT K) ix_tup (pe_ix (r := rIxT K) ix_tup (pv 1) pe_int (fun _ _ => rfl)) (pe_ix (r := rIxT K) ix_tup (pe_ix (r := rIxT K) ix_tup (pv 0) pe_int (fun _ _ => rfl)) pe_int (fun _ _ => rfl)) (fun _ _ => rfl)) pe_int (fun _ _ => rfl)) (pa_cons (pv 0) pa_nil))), pts_nil⟩)) pa_nil)) pa_nil))))⟩))), ?_⟩
 refine ⟨_, rfl, u2, rfl, ⟨_, SqL.of a.h2⟩, ?_⟩
 refine for_list (K := K) (a := u2) (xs := rl) (fun i σ H1 => Same H H1 ∧ (∀ q ∈ rg.take i, deadB b bs q.2 = false) ∧ ∃ v4 v5 v6, σ = [some (.ref t), some (.ref pb), some (.ref u1), some (.ref u2), v4, v5, v6, none, none, none, none, none, none]) ⟨Same.refl H, fun _ h => absurd h (by simp), none, none, none, rfl⟩ (fun i σ H1 _ ⟨S, _⟩ => SqL.of (S _ _ a.h2)) ?_ ?_
 ·rintro i x σ H1 hx ⟨S1, hal, v4, v5, v6, rfl⟩
  have hi : i < rg.length := by have := (List.getElem?_eq_some_iff.mp hx).1; omega
  obtain ⟨d, ed, dx⟩ := a.rs.get hx
  rw [List.getElem?_map, gE hi] at ed
  cases ed
  have K := f.rk _ (List.getElem_mem hi)
  have R := K.rg N (by omega)
  refine ⟨_, rfl, _, rfl, _, rfl, .ref t, .ref pb, x, b, m, sp, bs, rg[i].2, rfl, a.net.same S1, hb0, hb61, a.bnd.same S1, dx.same S1, (by rw [lb]; exact R.inn), fun q2 H2 S2 h2 => ?_⟩
  have h2 : H2 q2 = some (.tup [.int (upB b (sumLo bs rg[i].2)), .int (sumHi bs rg[i].2 / b)]) := h2
  refine ⟨q2, _, rfl, SqT.of h2, rfl, _, _, rfl, _, _, rfl, rfl, ?_⟩
  have S02 := S1.trans S2
  refine ⟨_, rfl, _, rfl, _, _, rfl, rfl, _, rfl, ite2 (fun hc => ?_) (fun hc => ?_)⟩
  ·refine ⟨_, rfl, (by show 2 ≤ sizeLine; decide), fun q3 H3 S3 h3 => ?_⟩
   have hc : deadB b bs rg[i].2 = true := hc
   exact k (.ref q3) (.leaf (leafP (.ring rg[i].2))) H3 (S02.trans S3) (.tup h3 (.cons (.str _) (.cons (dx.same (S02.trans S3)) .nil))) (.inl ⟨rg[i], List.getElem_mem hi, rfl, hc⟩) (Nat.zero_le _) (by show 1 + 1 ≤ 2 * prodB bs tk; omega)
  ·refine ⟨S02, fun q hq => ?_, _, _, _, rfl⟩
   rw [List.take_add_one, gE hi] at hq
   rcases List.mem_append.mp hq with z | z
   ·exact hal q z
   ·rw [List.mem_singleton.mp z]; exact Bool.eq_false_iff.mpr hc
 rintro σ H1 ⟨S1, hal, v4, v5, v6, rfl⟩
 rw [lrl, List.take_length] at hal
 have a1 := a.same S1
 refine ⟨_, rfl, u1, rfl, ⟨_, SqL.of a1.h1⟩, ?_⟩
 refine for_list (K := K) (a := u1) (xs := tk.map fun (i : Nat) => V.int i) (fun i σ H2 => H2 = H1 ∧ (∀ j ∈ tk.take i, (bs.getD j (0, 0)).1 = (bs.getD j (0, 0)).2) ∧ ∃ v7 v8 v9, σ = [some (.ref t), some (.ref pb), some (.ref u1), some (.ref u2), v4, v5, v6, v7, v8, v9, none, none, none]) ⟨rfl, fun _ h => absurd h (by simp), none, none, none, rfl⟩ (fun i σ H2 _ ⟨e, _⟩ => by rw [e]; exact SqL.of a1.h1) ?_ ?_
 ·rintro i x σ H2 hx ⟨rfl, hfx, v7, v8, v9, rfl⟩
  obtain ⟨kk, hkk, rfl⟩ := mapI_at hx
  have hkt : kk ∈ tk := List.mem_of_getElem? hkk
  have hkn := f.acy.nodup.2 kk hkt
  have hk : kk < bs.length := by omega
  have hpb2 := S1 _ _ hpb
  have rb2 : IsDs H2 yb (rowsD bndR bs) := rb.same S1
  obtain ⟨qn, hqn, hqn2⟩ := rows_at rb2 (gE hk)
  have e0 : bs.getD kk (0, 0) = bs[kk] := by rw [List.getD_eq_getElem?_getD, gE hk]; rfl
  refine ⟨_, rfl, _, rfl, pb, _, _, _, rfl, rfl, SqT.of hpb2, atI_nat (j := kk) hqn, qn, _, rfl, SqT.of hqn2, rfl, _, _, rfl, _, _, rfl, rfl, ?_⟩
  refine ⟨_, rfl, _, rfl, _, _, rfl, rfl, _, rfl, ite2 (fun hc => ?_) (fun hc => ?_)⟩
  rotate_left
  ·refine ⟨rfl, fun j hj => ?_, _, _, _, rfl⟩
   rw [List.take_add_one, hkk] at hj
   rcases List.mem_append.mp hj with z | z
   ·exact hfx j z
   ·rw [List.mem_singleton.mp z, e0]
    have hc : ¬ bs[kk].1 < bs[kk].2 := fun z => hc (decide_eq_true z)
    have := (O.lo kk hkn).2.1
    rw [e0] at this
    omega
  have hc : bs[kk].1 < bs[kk].2 := of_decide_eq_true hc
  refine ⟨_, rfl, _, rfl, _, _, rfl, rfl, _, _, rfl, rfl, ⟨by decide, by decide⟩, ?_⟩
  obtain ⟨at', hat⟩ : ∃ at' : Int, at' = (bs[kk].1 + bs[kk].2) / 2 := ⟨_, rfl⟩
  have c1 : bs[kk].1 ≤ at' := by omega
  have c2 : at' < bs[kk].2 := by omega
  rw [show (fun i j => V.int (i / j)) (bs[kk].1 + bs[kk].2) 2 = V.int at' by rw [hat]]
  have e1 : oneB bs kk at' = bs.set kk (bs[kk].1, at') := by unfold oneB; rw [e0]
  have e2 : otherB bs kk at' = bs.set kk (at' + 1, bs[kk].2) := by unfold otherB; rw [e0]
  obtain ⟨z1, z2, z3⟩ := cut_sizes hk (by rw [e0]; exact c1) (by rw [e0]; exact c2) tk f.acy.nodup.1 hkt
  refine ⟨_, rfl, _, rfl, _, rfl, _, rfl, pb, _, rfl, hpb2, fun qB HB SB hB => ⟨_, rfl, _, rfl, (by show 2 ≤ sizeLine; decide), fun q1 HA SA h1 => ⟨(by show 1 ≤ sizeLine; decide), fun qC HC SC hC => ?_⟩⟩⟩
  rw [cutU (n := kk) rfl] at hB
  refine ⟨qB, qC, _, _, rfl, rfl, SC _ _ (SA _ _ hB), hC, ?_, fun qD HD SD hD => ?_⟩
  ·rw [List.length_take]; exact Nat.le_trans (by show min kk yb.length + 1 ≤ 1000; omega) (by decide)
  refine ⟨_, rfl, _, rfl, _, _, rfl, rfl, _, rfl, pb, _, rfl, SD _ _ (SC _ _ (SA _ _ (SB _ _ hpb2))), fun qE HE SE hE => ?_⟩
  rw [cutF (n := kk + 1) (by omega)] at hE
  refine ⟨qD, qE, _, _, rfl, rfl, SE _ _ hD, hE, ?_, fun qF HF SF hF => ?_⟩
  ·rw [List.length_append, List.length_take, List.length_drop]; exact Nat.le_trans (by show min kk yb.length + 1 + (yb.length - (kk + 1)) ≤ 1000; omega) (by decide)
  have S1F : Same HA HF := SC.trans (SD.trans (SE.trans SF))
  have SF' : Same H2 HF := SB.trans (SA.trans S1F)
  have hbF : IsD HF (.ref qF) (bndP (bs.set kk (bs[kk].1, at'))) := by
   refine .tup hF ?_
   rw [set_cat hk, List.map_append, List.map_append, List.map_take, List.map_drop]
   exact ((IsDs.takeN kk (rb2.same SF')).append (.cons (.tup (S1F _ _ h1) (IsDs.ints [bs[kk].1, at'])) .nil)).append (IsDs.dropN (kk + 1) (rb2.same SF'))
  clear hB hC hD hE hF h1 SB SC SD SE SF SA S1F
  rw [← e1] at hbF
  have aF := a1.same SF'
  refine ⟨_, rfl, _, rfl, .ref t, .ref qF, u1, u2, b, m, sp, tk, rg, rl, _, rfl, by omega, ⟨aF.net, N, hbF, O.one hkt hkn (by rw [e0]; exact c1) (by rw [e0]; exact c2), f, aF.h1, aF.h2, aF.rs⟩, fun w1 t1 H5 S5 hw1 ft1 dp1 sz1 => ?_⟩
  have S25 := SF'.trans S5
  have rb5 : IsDs H5 yb (rowsD bndR bs) := rb2.same S25
  clear hbF aF
  refine ⟨_, rfl, _, rfl, _, rfl, _, rfl, pb, _, rfl, S25 _ _ hpb2, fun qB HB SB hB => ⟨_, rfl, _, _, rfl, rfl, _, rfl, (by show 2 ≤ sizeLine; decide), fun q1 HA SA h1 => ⟨(by show 1 ≤ sizeLine; decide), fun qC HC SC hC => ?_⟩⟩⟩
  rw [cutU (n := kk) rfl] at hB
  refine ⟨qB, qC, _, _, rfl, rfl, SC _ _ (SA _ _ hB), hC, ?_, fun qD HD SD hD => ?_⟩
  ·rw [List.length_take]; exact Nat.le_trans (by show min kk yb.length + 1 ≤ 1000; omega) (by decide)
  refine ⟨_, rfl, _, rfl, _, _, rfl, rfl, _, rfl, pb, _, rfl, SD _ _ (SC _ _ (SA _ _ (SB _ _ (S25 _ _ hpb2)))), fun qE HE SE hE => ?_⟩
  rw [cutF (n := kk + 1) (by omega)] at hE
  refine ⟨qD, qE, _, _, rfl, rfl, SE _ _ hD, hE, ?_, fun qF' HF' SF2 hF => ?_⟩
  ·rw [List.length_append, List.length_take, List.length_drop]; exact Nat.le_trans (by show min kk yb.length + 1 + (yb.length - (kk + 1)) ≤ 1000; omega) (by decide)
  have S1F : Same HA HF' := SC.trans (SD.trans (SE.trans SF2))
  have SF5 : Same H5 HF' := SB.trans (SA.trans S1F)
  have hbF : IsD HF' (.ref qF') (bndP (bs.set kk (at' + 1, bs[kk].2))) := by
   refine .tup hF ?_
   rw [set_cat hk, List.map_append, List.map_append, List.map_take, List.map_drop]
   exact ((IsDs.takeN kk (rb5.same SF5)).append (.cons (.tup (S1F _ _ h1) (IsDs.ints [at' + 1, bs[kk].2])) .nil)).append (IsDs.dropN (kk + 1) (rb5.same SF5))
  clear hB hC hD hE hF h1 SB SC SD SE SF2 SA S1F
  rw [← e2] at hbF
  have aF := a1.same (S25.trans SF5)
  refine ⟨_, rfl, _, rfl, .ref t, .ref qF', u1, u2, b, m, sp, tk, rg, rl, _, rfl, by omega, ⟨aF.net, N, hbF, O.other hkt hkn (by rw [e0]; exact c1) (by rw [e0]; exact c2), f, aF.h1, aF.h2, aF.rs⟩, fun w2 t2 H6 S6 hw2 ft2 dp2 sz2 => ?_⟩
  refine ⟨_, rfl, _, rfl, _, rfl, _, rfl, (by show 5 ≤ sizeLine; decide), fun q9 H9 S9 h9 => ?_⟩
  have S59 := SF5.trans (S6.trans S9)
  refine k (.ref q9) (.cut kk at' t1 t2) H9 (S1.trans (S25.trans S59)) (.tup h9 (.cons (.str _) (.cons (.int _) (.cons (.int _) (.cons (hw1.same S59) (.cons (hw2.same S9) .nil)))))) ⟨hkt, by rw [e0]; exact c1, by rw [e0]; exact c2, ft1, ft2⟩ ?_ ?_
  ·show max (dpT t1) (dpT t2) + 1 ≤ sumB bs tk
   omega
  ·show siz t1 + siz t2 + 1 + 1 ≤ 2 * prodB bs tk
   omega
 rintro σ H2 ⟨rfl, hfx, v7, v8, v9, rfl⟩
 rw [List.length_map, List.take_length] at hfx
 refine ⟨_, rfl, u2, rfl, ⟨_, SqL.of a1.h2⟩, ?_⟩
 refine comp_list (K := K) (a := u2) (xs := rl) (fun i zs H3 => Same H2 H3 ∧ zs.length = i ∧ IsDs H3 zs ((rowsR sp (rg.take i)).map rowD)) ⟨Same.refl H2, rfl, .nil⟩ (fun i zs H3 hi ⟨S, e2, _⟩ => ⟨SqL.of (S _ _ a1.h2), Nat.le_of_eq e2⟩) (by rw [lrl]; exact small_le (by omega)) (fun i x zs H3 hx ⟨S3, e2', e3⟩ => ?_) (fun zs H3 ⟨S3, e2', e3⟩ D hD => ?_)
 ·have hi : i < rg.length := by have := (List.getElem?_eq_some_iff.mp hx).1; omega
  obtain ⟨d, ed, dx⟩ := a1.rs.get hx
  rw [List.getElem?_map, gE hi] at ed
  cases ed
  have RKi := f.rk _ (List.getElem_mem hi)
  obtain ⟨p, ep, P⟩ := RKi.way
  obtain ⟨px, yx, rfl, hpx, hlx, rx⟩ := rows_of (dx.same S3)
  have h0 : (rg[i].2)[0]? = some ⟨rg[i].1, 1⟩ := by rw [ep]; rfl
  obtain ⟨q0, hq0, hq02⟩ := rows_at rx h0
  have S03 := S1.trans S3
  obtain ⟨qs, hqs, hqs2⟩ := hy rg[i].1 _ (sAt_of RKi.lt)
  refine tNoIf_go ?_
  refine ⟨_, rfl, t, _, _, _, rfl, rfl, SqT.of (S03 _ _ ht), atI_nat (j := 2) rfl, _, rfl, px, _, _, _, rfl, rfl, SqT.of hpx, atI_nat (j := 0) hq0, q0, _, _, _, rfl, rfl, SqT.of hq02, atI_nat (j := 0) rfl, pn, _, _, _, rfl, rfl, SqT.of (S03 _ _ hpn), atI_nat (j := rg[i].1) hqs, qs, _, _, _, rfl, rfl, SqT.of (S03 _ _ hqs2), atI_nat (j := 4) rfl, _, rfl, (by show 2 ≤ sizeLine; decide), fun q9 H9 S9 h9 => ⟨S3.trans S9, by rw [List.length_append, e2']; rfl, ?_⟩⟩
  unfold rowsR at e3 ⊢
  rw [List.take_add_one, gE hi, List.map_append, List.map_append]
  exact (e3.same S9).append (.cons (.tup h9 (.cons (.int _) (.cons ((dx.same S3).same S9) .nil))) .nil)
 ·rw [lrl, List.take_length] at e3
  have S4 : Same H3 (upd H3 D (.lst zs)) := Same.put (Same.refl H3) hD
  have hD4 : (upd H3 D (.lst zs)) D = some (.lst zs) := upd_same
  generalize upd H3 D (.lst zs) = H4 at S4 hD4 ⊢
  refine ⟨D, _, rfl, SqL.of hD4, fun q5 H5 S5 h5 => ⟨(by show 2 ≤ sizeLine; decide), fun q6 H6 S6 h6 => ?_⟩⟩
  have S26 := S3.trans (S4.trans (S5.trans S6))
  refine k (.ref q6) (.leaf (leafP (.price (rowsR sp rg)))) H6 (S1.trans S26) (.tup h6 (.cons (.str _) (.cons (.tup (S6 _ _ h5) (e3.same (S4.trans (S5.trans S6)))) .nil))) (.inr ⟨rfl, hfx, hal⟩) (Nat.zero_le _) ?_
  show 1 + 1 ≤ 2 * prodB bs tk
  omega
theorem ok_full {f f1 : Addr} {fd fd1 : FuncData} (T : Nm mg) (G1 : Fn K mg "_law_beats" sBeatsL ["_law_net_here", "_law_bounds_here", "_law_ring"] f1 fd1) (G2 : Fn K mg "_law_full" sFull ["_law_net_here", "_law_bounds_here", "_law_taken", "_law_rings_here"] f fd) : ∀ dd, FnOk P w K mg base CX0 (2 + dd) f fd ["_law_net_here", "_law_bounds_here", "_law_taken", "_law_rings_here"] (spFull dd)
 | 0 => ok_full0
 | dd + 1 => ok_full1 T G1 G2 (ok_full T G1 G2 dd)
end
end HN
namespace HN
open PySem L2 PyProof.Rows
abbrev sShown : Stmt := top 29
section
variable {P : Program} {w : World} {K : PySem.W.Frag} {mg : Str → Option Value} {base : Heap}
theorem scShown : FnScope ["net", "thing", "leaves", "worths"] ["net", "thing"] (defScope sShown) := ⟨rfl, rfl, rfl, by decide +kernel, rfl, by decide +kernel, by decide +kernel⟩
theorem ok_shown {f f1 f2 f3 : Addr} {fd fd1 fd2 fd3 : FuncData} (F : Fun K "shown_by" "shown_by" sShown f fd) (T : Nm mg)
  (G1 : Fn K mg "leaves_in" sLeavesIn ["net", "thing"] f1 fd1) (F1 : FnOk P w K mg base CX0 8 f1 fd1 ["net", "thing"] spLeavesIn)
  (G2 : Fn K mg "is_right" sIsRight ["net", "bounds", "leaf"] f2 fd2) (F2 : FnOk P w K mg base CX0 4 f2 fd2 ["net", "bounds", "leaf"] spIsRight)
  (G3 : Fn K mg "worth_of" sWorth ["net", "bounds", "leaf"] f3 fd3) (F3 : FnOk P w K mg base CX0 3 f3 fd3 ["net", "bounds", "leaf"] spWorth) : FnOk P w K mg base CX0 9 f fd ["net", "thing"] spShown6 := by
 refine F.ok scShown (fun vs H Q E h => by obtain ⟨v, u, b, m, sp, t, ps, rfl, _⟩ := h; rfl) (fun cdv A outer s H vs Q E hr h => ?_)
 obtain ⟨v, u, b, m, sp, t, ps, rfl, W, hcut, hall, k⟩ := h
 obtain ⟨hv, hu, b0, b61, few, hws, hsz, hlv, hok⟩ := W
 have hr8 : Room 8 _ := hr
 have hr4 : Room 4 _ := hr.mono (by decide)
 have hr3 : Room 3 _ := hr.mono (by decide)
 refine ⟨_, PSl.h (l_cons ⟨(ps_set (i := 2) scShown.nd rfl (Or.inl rfl) (pc1 G1 F1 hr8 (pa_cons (pv 0) (pa_cons (pv 1) pa_nil))))⟩
  (l_cons ⟨(ps_if (PW.pt (pw_or (pt_cmpR op_isN (pv 2) pe_non (nomark _)) (pw_or1 (pt_not (pt_val (pe_callB (call_all rfl) rfl T.all boot_all (pa_cons (pe_compT (xs := ["bounds", "leaf"]) (fr := ["net"]) (js := [0]) rfl (pi_list (pv 2)) (by decide +kernel) rfl (by decide +kernel) (by show ∀ y : Str × NameKind, y ∈ _ → y.2 = NameKind.free → List.lookup y.1 (defScope sShown).names = some NameKind.cell; decide +kernel) rfl (by decide +kernel) (fun _ _ _ _ _ => pg_two rfl (by decide +kernel) rfl rfl) (fun _ _ _ _ _ => ⟨(pc1 G2 F2 hr4 (pa_cons (pv 2) (pa_cons (pv 0) (pa_cons (pv 1) pa_nil)))), pts_nil⟩)) pa_nil))))))) (pss_one (ps_ret pe_non)) pss_nil)⟩
  (l_cons ⟨(ps_setCT (iy := 3) (xs := ["bounds", "leaf"]) (fr := ["net"]) (js := [0]) scShown.nd rfl (Or.inl rfl) rfl (pi_list (pv 2)) (by decide +kernel) rfl (by decide +kernel) (by show ∀ y : Str × NameKind, y ∈ _ → y.2 = NameKind.free → List.lookup y.1 (defScope sShown).names = some NameKind.cell; decide +kernel) rfl (by decide +kernel) (fun _ _ _ _ _ => pg_two rfl (by decide +kernel) rfl rfl) (fun _ _ _ _ _ => ⟨(pc1 G3 F3 hr3 (pa_cons (pv 2) (pa_cons (pv 0) (pa_cons (pv 1) pa_nil)))), (pts_one (pt_cmpR op_eq (pe_ix (r := rIxT K) ix_tup (pv 1) pe_int (fun _ _ => rfl)) pe_str (nomark _)))⟩))⟩
  (l_cons ⟨(ps_if (pt_cmpR op_eq (pe_callB call_len_seq rfl T.len PySem.boot_len (pa_cons (pv 3) pa_nil)) pe_int (nomark _)) (pss_one (ps_ret (pe_tupA (pa_cons pe_str pa_nil)))) pss_nil)⟩
  (l_one ⟨(ps_ret (pe_tupA (pa_cons pe_str (pa_cons (pe_callB (call_min1 rfl) rfl T.min boot_min (pa_cons (pv 3) pa_nil)) pa_nil))))⟩))))), ?_⟩
 refine ⟨_, rfl, _, rfl, v, u, b, m, sp, t, rfl, hv, hu, few, hcut, by omega, fun res H1 S1 hres => ?_⟩
 rw [if_pos hall] at hres
 obtain ⟨L, ys, rfl, hLn, hL, hys⟩ := hres
 rw [hlv, List.map_map] at hys
 have ly : ys.length = ps.length := by rw [hys.length, List.length_map]
 have lps : ps.length ≤ 1000 := by
  have := lvs_siz t (sp.map fun x => (x.l, x.o))
  rw [hlv, List.length_map] at this
  omega
 have plc : ∀ {i : Nat} {y : V}, ys[i]? = some y → ∃ (hi : i < ps.length) (q : Addr) (vb vl : V), y = .ref q ∧ H1 q = some (.tup [vb, vl]) ∧ IsD H1 vb (bndP ps[i].1) ∧ IsD H1 vl (leafP ps[i].2) := fun {i y} hy => by
  have hi : i < ps.length := by rw [← ly]; exact (List.getElem?_eq_some_iff.mp hy).1
  obtain ⟨d, hd, dy⟩ := hys.get hy
  rw [List.getElem?_map, gE hi] at hd
  cases hd
  obtain ⟨q, vb, vl, e, h1, h2, h3⟩ := plc_of dy
  exact ⟨hi, q, vb, vl, e, h1, h2, h3⟩
 refine ⟨_, rfl, rfl, _, rfl, iteC (decide_eq_false fun z => by cases z) ?_⟩
 refine ⟨_, rfl, L, rfl, ⟨_, SqL.of hL⟩, ?_⟩
 refine compT_lst (K := K) (a := L) (xs := ys) (fun i zs H2 => Same H1 H2 ∧ zs = ((ps.take i).map (rightP b)).map V.bl) ⟨Same.refl H1, rfl⟩ (fun i zs H2 hi z => ?_) (by rw [ly]; exact small_le (by omega)) (fun i y zs H2 hy z => ?_) (fun zs H2 z D hD => ?_)
 ·obtain ⟨e1, e2⟩ := z
  refine ⟨SqL.of (e1 _ _ hL), ?_⟩
  rw [e2, List.length_map, List.length_map, List.length_take]; omega
 ·obtain ⟨e1, e2⟩ := z
  obtain ⟨hi, q, vb, vl, rfl, hq, hb, hl⟩ := plc hy
  have ok := hok ps[i] (List.getElem_mem hi)
  refine ⟨q, vb, vl, rfl, e1 _ _ hq, tNoIf_go ?_⟩
  refine ⟨_, rfl, _, rfl, _, rfl, v, vb, vl, b, m, sp, ps[i].1, ps[i].2, rfl, (hv.same S1).same e1, b0, b61, hb.same e1, hl.same e1, by rw [ok.len]; exact ok.inn, fun H3 S3 => ⟨e1.trans S3, ?_⟩⟩
  rw [e2, List.take_add_one, gE hi, List.map_append, List.map_append]; rfl
 obtain ⟨e1, e2⟩ := z
 rw [ly, List.take_length] at e2
 subst e2
 have S2 : Same H1 (upd H2 D (.lst ((ps.map (rightP b)).map V.bl))) := Same.put e1 hD
 have hD2 : (upd H2 D (.lst ((ps.map (rightP b)).map V.bl))) D = some (.lst ((ps.map (rightP b)).map V.bl)) := upd_same
 generalize upd H2 D (.lst ((ps.map (rightP b)).map V.bl)) = H3 at S2 hD2 ⊢
 refine ⟨D, ps.map (rightP b), rfl, SqL.of hD2, _, rfl, ?_⟩
 have ea : (ps.map (rightP b)).all id = ps.all (rightP b) := by rw [List.all_map]; rfl
 rw [ea]
 cases hright : ps.all (rightP b) with
 | false =>
  refine iteB rfl ?_
  refine k .non H3 (S1.trans S2) ?_
  unfold ShAns
  rw [hright]
  rfl
 | true =>
 refine iteC rfl ?_
 have S13 := S1.trans S2
 refine ⟨_, rfl, L, rfl, ⟨_, SqL.of (S2 _ _ hL)⟩, ?_⟩
 refine compT_lst (K := K) (a := L) (xs := ys) (fun i zs H4 => Same H3 H4 ∧ zs = (worthsM b sp (ps.take i)).map V.int) ⟨Same.refl H3, rfl⟩ (fun i zs H4 hi z => ?_) (by rw [ly]; exact small_le (by omega)) (fun i y zs H4 hy z => ?_) (fun zs H4 z D2 hD2 => ?_)
 ·obtain ⟨e1, e2⟩ := z
  refine ⟨SqL.of (e1 _ _ (S2 _ _ hL)), ?_⟩
  have := worths_len (b := b) (sp := sp) (ps.take i)
  rw [List.length_take] at this
  rw [e2, List.length_map]; omega
 ·obtain ⟨e1, e2⟩ := z
  obtain ⟨hi, q, vb, vl, rfl, hq, hb, hl⟩ := plc hy
  have ok := hok ps[i] (List.getElem_mem hi)
  obtain ⟨ql, xl, rfl, hql⟩ := word_of hl
  have T4 := S2.trans e1
  refine ⟨q, vb, .ref ql, rfl, T4 _ _ hq, ?_⟩
  rw [worths_take hi]
  refine ⟨_, rfl, ql, _, _, _, rfl, rfl, SqT.of (T4 _ _ hql), atI_nat (j := 0) rfl, rfl, _, rfl, ?_⟩
  cases hlf : ps[i].2 with
  | ring ws =>
   refine iteC (decide_eq_false (by show ¬ V.str "ring" = V.str "price"; decide)) ⟨e1, ?_⟩
   have : worthO b sp ps[i] = none := by unfold worthO; rw [hlf]
   rw [this, e2]
   show _ = List.map V.int (_ ++ [])
   rw [List.append_nil]
  | price rows =>
   refine iteB (decide_eq_true rfl) ?_
   obtain ⟨l41, rk⟩ := ok.rws rows hlf
   have : worthO b sp ps[i] = some (worthM b sp ps[i].1 rows) := by unfold worthO; rw [hlf]
   rw [this]
   rw [hlf] at hl
   refine ⟨_, rfl, _, rfl, _, rfl, v, vb, .ref ql, b, m, sp, ps[i].1, rows, rfl, ⟨(hv.same S13).same e1, hb.same T4, hl.same T4, b0, b61, ok.len, few, ok.bu, hws, rk, l41⟩, fun H5 S5 => ⟨e1.trans S5, ?_⟩⟩
   rw [e2, List.map_append]; rfl
 obtain ⟨e1, e2⟩ := z
 rw [ly, List.take_length] at e2
 subst e2
 have S4 : Same H3 (upd H4 D2 (.lst ((worthsM b sp ps).map V.int))) := Same.put e1 hD2
 have h4 : (upd H4 D2 (.lst ((worthsM b sp ps).map V.int))) D2 = some (.lst ((worthsM b sp ps).map V.int)) := upd_same
 generalize upd H4 D2 (.lst ((worthsM b sp ps).map V.int)) = H5 at S4 h4 ⊢
 have S05 := S13.trans S4
 refine ⟨_, rfl, D2, _, rfl, .inl (SqL.of h4), rfl, _, rfl, ?_⟩
 cases hw : worthsM b sp ps with
 | nil =>
  refine iteB (by rfl) ?_
  refine ⟨(by show 1 ≤ sizeLine; decide), fun q6 H6 S6 h6 => k (.ref q6) H6 (S05.trans S6) ?_⟩
  unfold ShAns
  rw [if_pos hright, hw]
  exact .tup h6 (.cons (.str _) .nil)
 | cons a l =>
  refine iteC (by rw [List.map_cons, List.length_cons]; refine decide_eq_false fun z => ?_; injection z with z; omega) ?_
  refine ⟨_, rfl, D2, worthsM b sp ps, rfl, SqL.of h4, by rw [hw]; simp, (by show 2 ≤ sizeLine; decide), fun q6 H6 S6 h6 => k (.ref q6) H6 (S05.trans S6) ?_⟩
  unfold ShAns
  rw [if_pos hright, hw]
  rw [hw] at h6
  exact .tup h6 (.cons (.str _) (.cons (.int _) .nil))
end
end HN
namespace HN
open PySem L2 PyProof.Rows
abbrev sLaw : Stmt := top 46
def spLaw (K : PySem.W.Frag) : Sp := fun vs H Q _ => ∃ (a : Addr) (ns : List Int), vs = [.ref a] ∧ SqL K H a (ns.map V.int) ∧ ns.length ≤ 63 ∧ ∀ H', Q (.bl true) H'
def okT (b : Int) (sp : List Sn) (ts : List Int) : Bool := decide (ts.getD 0 0 = 0) && fitsM b ts sp
def waitsA (b : Int) (sp : List Sn) (tt : List (List Int)) : List Int := (tt.filter (okT b sp)).map fun ts => waitOfM b ts sp
theorem waitsA_snoc {b : Int} {sp : List Sn} {tt : List (List Int)} {i : Nat} (h : i < tt.length) : waitsA b sp (tt.take (i + 1)) = waitsA b sp (tt.take i) ++ (if okT b sp tt[i] = true then [waitOfM b tt[i] sp] else []) := by
 unfold waitsA
 rw [List.take_add_one, gE h, List.filter_append, List.map_append]
 congr 1
 show (List.filter _ [tt[i]]).map _ = _
 rw [List.filter_cons, List.filter_nil]
 split <;> rfl
theorem least_same {A B : List Int} (ha : A ≠ []) (hb : B ≠ []) (h1 : ∀ x ∈ A, ∃ y ∈ B, y ≤ x) (h2 : ∀ y ∈ B, ∃ x ∈ A, x ≤ y) : leastI A = leastI B := by
 obtain ⟨a1, a2⟩ := least_ok A ha
 obtain ⟨b1, b2⟩ := least_ok B hb
 obtain ⟨y, y1, y2⟩ := h1 _ a1
 obtain ⟨x, x1, x2⟩ := h2 _ b1
 have := b2 y y1
 have := a2 x x1
 omega
section
variable {P : Program} {w : World} {K : PySem.W.Frag} {mg : Str → Option Value} {base : Heap}
theorem scLaw : FnScope ["_law_script", "_law_deck", "_law_net_here", "_law_hidden", "_law_taken", "_law_tree", "_law_bounds_here", "_law_leaf", "_law_waits_here", "_law_table"] ["_law_script"] (defScope sLaw) := ⟨rfl, rfl, rfl, by decide +kernel, rfl, by decide +kernel, by decide +kernel⟩
theorem ok_law {f f1 f2 f3 f4 f5 f6 f7 f8 f9 fA fB fC fD : Addr} {fd fd1 fd2 fd3 fd4 fd5 fd6 fd7 fd8 fd9 fdA fdB fdC fdD : FuncData} (F : Fun K "law" "law" sLaw f fd) (T : Nm mg) (T2 : Nt mg)
  (G1 : Fn K mg "_law_numbers" sNums ["_law_script", "_law_most"] f1 fd1)
  (G2 : Fn K mg "_law_net" sNetD ["_law_deck", "_law_most", "_law_beats_here", "_law_size", "_law_great"] f2 fd2) (F2 : FnOk P w K mg base CX0 3 f2 fd2 ["_law_deck", "_law_most", "_law_beats_here", "_law_size", "_law_great"] spNetW)
  (G3 : Fn K mg "_law_forest" sForN ["_law_net_here"] f3 fd3) (F3 : FnOk P w K mg base CX0 4 f3 fd3 ["_law_net_here"] spForN)
  (G4 : Fn K mg "_law_bounds" sBoundsF ["_law_net_here"] f4 fd4)
  (G5 : Fn K mg "_law_rings" sRingsL ["_law_net_here", "_law_taken"] f5 fd5) (F5 : FnOk P w K mg base CX0 4 f5 fd5 ["_law_net_here", "_law_taken"] spRingsL)
  (G6 : Fn K mg "_law_full" sFull ["_law_net_here", "_law_bounds_here", "_law_taken", "_law_rings_here"] f6 fd6) (F6 : FnOk P w K mg base CX0 18 f6 fd6 ["_law_net_here", "_law_bounds_here", "_law_taken", "_law_rings_here"] (spFull 16))
  (G7 : Fn K mg "is_tree" sTreeI ["net", "thing"] f7 fd7) (F7 : FnOk P w K mg base CX0 9 f7 fd7 ["net", "thing"] spTreeI)
  (G8 : Fn K mg "leaves_of" sLeavesOf ["net", "tree"] f8 fd8) (F8 : FnOk P w K mg base CX0 9 f8 fd8 ["net", "tree"] spLeavesOf)
  (G9 : Fn K mg "is_right" sIsRight ["net", "bounds", "leaf"] f9 fd9) (F9 : FnOk P w K mg base CX0 4 f9 fd9 ["net", "bounds", "leaf"] spIsRight)
  (GA : Fn K mg "_law_tables" sTables ["_law_beat", "_law_many"] fA fdA)
  (GB : Fn K mg "_law_fits" sFitsN ["_law_net_here", "_law_table"] fB fdB) (FB : FnOk P w K mg base CX0 2 fB fdB ["_law_net_here", "_law_table"] spFits)
  (GC : Fn K mg "_law_wait" sWaitN ["_law_net_here", "_law_table"] fC fdC) (FC : FnOk P w K mg base CX0 2 fC fdC ["_law_net_here", "_law_table"] spWaitOf)
  (GD : Fn K mg "shown_by" sShown ["net", "thing"] fD fdD) (FD : FnOk P w K mg base CX0 9 fD fdD ["net", "thing"] spShown6) : FnOk P w K mg base CX0 19 f fd ["_law_script"] (spLaw K) := by
 have F1 : FnOk P w K mg base CX0 1 f1 fd1 ["_law_script", "_law_most"] (spNums K) := ok_nums G1.F T T2
 have F4 : FnOk P w K mg base CX0 1 f4 fd4 ["_law_net_here"] spFirst := ok_boundsF G4.F T
 have FA : FnOk P w K mg base CX0 1 fA fdA ["_law_beat", "_law_many"] spTablesA := ok_tables GA.F T2
 refine F.ok scLaw (fun vs H Q E h => by obtain ⟨a, ns, rfl, _⟩ := h; rfl) (fun cdv A outer s H vs Q E hr h => ?_)
 obtain ⟨a, ns, rfl, ha, hn, k⟩ := h
 have hr1 : Room 1 _ := hr.mono (by decide)
 have hr2 : Room 2 _ := hr.mono (by decide)
 have hr3 : Room 3 _ := hr.mono (by decide)
 have hr4 : Room 4 _ := hr.mono (by decide)
 have hr9 : Room 9 _ := hr.mono (by decide)
 have hr18 : Room 18 _ := hr
 refine ⟨_, PSl.h (l_cons ⟨(ps_set (i := 1) scLaw.nd rfl (Or.inl rfl) (pc1 G1 F1 hr1 (pa_cons (pv 0) (pa_cons pe_int pa_nil))))⟩
  (l_cons ⟨(ps_asg (pc1 G2 F2 hr3 (pa_cons (pv 1) (pa_cons pe_int (pa_cons pe_int (pa_cons pe_int (pa_cons pe_int pa_nil)))))) (pg_tup rfl (pgs_cons (pg_name (i := 2) scLaw.nd rfl (Or.inl rfl)) (pgs_cons (pg_name (i := 3) scLaw.nd rfl (Or.inl rfl)) pgs_nil))))⟩
  (l_cons ⟨(ps_set (i := 4) scLaw.nd rfl (Or.inl rfl) (pc1 G3 F3 hr4 (pa_cons (pv 2) pa_nil)))⟩
  (l_cons ⟨(ps_set (i := 5) scLaw.nd rfl (Or.inl rfl) (pc1 G6 F6 hr18 (pa_cons (pv 2) (pa_cons (pc1 G4 F4 hr1 (pa_cons (pv 2) pa_nil)) (pa_cons (pv 4) (pa_cons (pc1 G5 F5 hr4 (pa_cons (pv 2) (pa_cons (pv 4) pa_nil))) pa_nil))))))⟩
  (l_cons ⟨(ps_if (pt_cmpR op_isNotB (pc1 G7 F7 hr9 (pa_cons (pv 2) (pa_cons (pv 5) pa_nil))) pe_bl (nomark _)) (pss_one (ps_ret pe_bl)) pss_nil)⟩
  (l_cons ⟨(ps_for PassesOwn.never rfl (pi_tup (pc1 G8 F8 hr9 (pa_cons (pv 2) (pa_cons (pv 5) pa_nil)))) (pg_tup rfl (pgs_cons (pg_name (i := 6) scLaw.nd rfl (Or.inl rfl)) (pgs_cons (pg_name (i := 7) scLaw.nd rfl (Or.inl rfl)) pgs_nil))) (pss_one (ps_if (pt_cmpR op_isNotB (pc1 G9 F9 hr4 (pa_cons (pv 2) (pa_cons (pv 6) (pa_cons (pv 7) pa_nil)))) pe_bl (nomark _)) (pss_one (ps_ret pe_bl)) pss_nil)))⟩
  (l_cons ⟨(ps_set (i := 8) scLaw.nd rfl (Or.inl rfl) (pe_lst pa_nil))⟩
  (l_cons ⟨(ps_for PassesOwn.never rfl (pi_list (pc1 GA FA hr1 (pa_cons (pe_ix ix_tup (pv 2) pe_int (fun _ _ => rfl)) (pa_cons (pe_ix ix_tup (pv 2) pe_int (fun _ _ => rfl)) pa_nil)))) (pg_name (i := 9) scLaw.nd rfl (Or.inl rfl)) (pss_one (ps_if (PW.pt (pw_and (pt_cmpR op_eq (pe_ix ix_tup (pv 9) pe_int (fun _ _ => rfl)) pe_int (nomark _)) (pw_and1 (pt_val (pc1 GB FB hr2 (pa_cons (pv 2) (pa_cons (pv 9) pa_nil))))))) (pss_one (ps_expr (pe_bm PySem.F.plainAttrs_list PySem.F.slot_list_append PySem.F.type_list_append mt_append (pv 8) (pa_cons (pc1 GC FC hr2 (pa_cons (pv 2) (pa_cons (pv 9) pa_nil))) pa_nil)))) pss_nil)))⟩
  (l_cons ⟨(ps_if (pt_cmpR (op_eqL0 hr.units0) (pv 8) (pe_lstA pa_nil) (nomark _)) (pss_one (ps_ret (pe_cmpR (op_eqD hr.units) (pc1 GD FD hr9 (pa_cons (pv 2) (pa_cons (pv 5) pa_nil))) (pe_tupA (pa_cons pe_str pa_nil)) (nomark _)))) pss_nil)⟩
  (l_one ⟨(ps_ret (pe_cmpR (op_eqD hr.units) (pc1 GD FD hr9 (pa_cons (pv 2) (pa_cons (pv 5) pa_nil))) (pe_tupA (pa_cons pe_str (pa_cons (pe_callB (call_min1 rfl) rfl T.min boot_min (pa_cons (pv 8) pa_nil)) pa_nil))) (nomark _)))⟩)))))))))), ?_⟩
 refine ⟨_, rfl, a, ns, 200, rfl, ha, by decide, by decide, fun p H1 H2 S1 hp1 M2 => ?_⟩
 refine ⟨_, rfl, p, 4, 6, 7, 1, rfl, M2.2, by decide, by decide, by decide, by decide, by decide, by decide, by decide, by decide, fun t v hd b m sp hs H6 M6 h6 hv N hb33 hh hlen hall hm4 hbg => ?_⟩
 have few := N.few
 have hb0 : 0 < b := N.b1
 have hb61 : b < 10 ^ 61 := Int.lt_of_le_of_lt hb33 (by decide)
 have hb6 : b ≤ 6 := hbg
 have m1 := N.m1
 clear M6 M2 S1 hp1 hall hh hlen
 refine ⟨t, _, rfl, SqT.of h6, rfl, _, _, rfl, _, _, rfl, rfl, ?_⟩
 clear h6
 refine ⟨_, rfl, v, b, m, sp, rfl, hv, N, fun u1 tk gs H7 S7 h7 Gg meets => ?_⟩
 refine ⟨_, rfl, _, rfl, v, b, m, sp, rfl, hv.same S7, by omega, fun ub H8 S8 hub => ?_⟩
 have S68 := S7.trans S8
 refine ⟨_, rfl, _, rfl, _, rfl, v, u1, b, m, sp, tk, gs, rfl, hv.same S68, N, S8 _ _ h7, Gg, meets, fun u2 rl rg H9 S9 h9 hrs hrk hks => ?_⟩
 have S69 := S68.trans S9
 have ff := ff_of N Gg hrk hks
 have O0 := OB.first N tk
 have fw := ff.few
 have tl : tk.length ≤ 3 := by omega
 have ww : ∀ j ∈ tk, wB (sp.map fun x => (x.l, x.o)) j ≤ 5 := fun j hj => by
  have hjn := ff.acy.nodup.2 j hj
  have e : (sp.map fun x => (x.l, x.o)).getD j (0, 0) = ((sAt sp j).l, (sAt sp j).o) := by
   rw [List.getD_eq_getElem?_getD, List.getElem?_map, sAt_of hjn]; rfl
  have := (N.all _ (sAt_mem hjn)).ob
  unfold wB
  rw [e]
  show (sAt sp j).o - (sAt sp j).l ≤ 5
  omega
 obtain ⟨sz1, sz2⟩ := sizes_le tk ww
 have p216 : 6 ^ tk.length ≤ 216 := pow6 tl
 refine ⟨v, ub, u1, u2, b, m, sp, tk, rg, rl, _, rfl, by omega, ⟨hv.same S69, N, hub.same S9, O0, ff, S9 _ _ (S8 _ _ h7), h9, hrs⟩, fun ut tr HA SA hut hft hdp hsz => ?_⟩
 have hvA := hv.same (S69.trans SA)
 clear hrs h9 hub h7 S68 S69 S7 S8 S9 hv SA
 have hdr := full_dr N ff tr _ hft O0
 have bsu : BsU (sp.map fun x => (x.l, x.o)) := fun q hq => by
  obtain ⟨z, hz, rfl⟩ := List.mem_map.mp hq
  exact ⟨(N.all z hz).l0, (N.all z hz).lo, (N.all z hz).o60⟩
 obtain ⟨kc, ka⟩ := drT_cuts tr _ hdr
 obtain ⟨ps, hps, pok⟩ := dr_ps tr _ hdr (List.length_map ..) bsu
 have hright : ps.all (rightP b) = true := List.all_eq_true.mpr fun x hx => lf_right (pok x hx).2.2
 have hplok : ∀ x ∈ ps, PlOk sp.length x := fun x hx => lf_plok (pok x hx).1 (pok x hx).2.1 (pok x hx).2.2
 have hokp : ∀ x ∈ ps, x.1.length = sp.length ∧ LfOk b sp x.1 x.2 := fun x hx => ⟨(pok x hx).1, (pok x hx).2.2⟩
 have hs1000 : siz tr ≤ 1000 := by omega
 refine ⟨_, rfl, _, rfl, v, ut, b, m, sp, tr, rfl, hvA, hut, few, kc, by omega, fun c HB hc SB => ?_⟩
 have hc : c = true := by rw [hc]; exact ka
 subst hc
 refine ⟨_, _, rfl, rfl, _, rfl, iteC rfl ?_⟩
 refine ⟨_, rfl, _, rfl, v, ut, b, m, sp, tr, rfl, hvA.same SB, hut.same SB, few, kc, by omega, ka, fun q HC SC hq => ?_⟩
 rw [hps, List.map_map] at hq
 obtain ⟨q', xs, e, hq', rx⟩ := hq.tup_of
 cases e
 have lx : xs.length = ps.length := by rw [rx.length, List.length_map]
 have hvC := (hvA.same SB).same SC
 have hutC := (hut.same SB).same SC
 refine ⟨q, rfl, ⟨_, SqT.of hq'⟩, ?_⟩
 refine for_tup (K := K) (xs := xs) (fun i σ HD => Same HC HD ∧ ∃ v6 v7, σ = [some (.ref a), some (.ref p), some v, some (.ref hd), some (.ref u1), some ut, v6, v7, none, none]) ⟨Same.refl HC, none, none, rfl⟩ (fun i σ HD _ ⟨S, _⟩ => SqT.of (S _ _ hq')) ?_ ?_
 ·rintro i x σ HD hx ⟨SD, v6, v7, rfl⟩
  have hi : i < ps.length := by rw [← lx]; exact (List.getElem?_eq_some_iff.mp hx).1
  obtain ⟨d, ed, dx⟩ := rx.get hx
  rw [List.getElem?_map, gE hi] at ed
  cases ed
  obtain ⟨q1, vb, vl, rfl, hq1, hb, hl⟩ := plc_of dx
  have ok := hplok ps[i] (List.getElem_mem hi)
  refine ⟨q1, _, rfl, SqT.of (SD _ _ hq1), rfl, _, _, rfl, _, _, rfl, rfl, ?_⟩
  refine ⟨_, rfl, _, rfl, _, rfl, v, vb, vl, b, m, sp, ps[i].1, ps[i].2, rfl, hvC.same SD, hb0, hb61, hb.same SD, hl.same SD, by rw [ok.len]; exact ok.inn, fun HE SE => ?_⟩
  have hri : rightB b ps[i].1 ps[i].2 = true := List.all_eq_true.mp hright _ (List.getElem_mem hi)
  rw [hri]
  exact ⟨_, _, rfl, rfl, _, rfl, iteC rfl ⟨SD.trans SE, _, _, rfl⟩⟩
 rintro σ HD ⟨SD, v6, v7, rfl⟩
 have hvD := hvC.same SD
 have hutD := hutC.same SD
 clear hvC hutC hq' rx SC SB SD
 refine ⟨Nat.zero_le _, fun Lw hLw => ?_⟩
 have SE : Same HD (upd HD Lw (.lst [])) := Same.put (Same.refl HD) hLw
 have hLwE : (upd HD Lw (.lst [])) Lw = some (.lst []) := upd_same
 generalize upd HD Lw (.lst []) = HE at SE hLwE ⊢
 obtain ⟨tn, pn, yn, rfl, htn, hpn, hln, hyn⟩ := netP_of hvD
 refine ⟨_, rfl, tn, _, _, _, rfl, rfl, SqT.of (SE _ _ htn), atI_nat (j := 0) rfl, _, rfl, tn, _, _, _, rfl, rfl, SqT.of (SE _ _ htn), atI_nat (j := 1) rfl, b, m, rfl, by omega, hb6, by omega, hm4, fun L us HF SF hL hT => ?_⟩
 have hLwF := SF _ _ hLwE
 have nL : L ≠ Lw := fun z => by
  rw [z, hLwF] at hL
  injection hL with hL
  injection hL with hL
  rw [← hL] at hT
  have lz := hT.length
  unfold rowsD at lz
  rw [List.length_map] at lz
  have : [] ∈ allT b.toNat m.toNat ∨ 0 < (allT b.toNat m.toNat).length := .inr (allT_pos (by omega) _)
  rcases this with z | z
  ·exact absurd (allT_each _ _ _ z) (by simp; omega)
  ·rw [← lz] at z; cases z
 have SDF := SE.trans SF
 have lus : us.length = (allT b.toNat m.toNat).length := by rw [hT.length]; exact List.length_map ..
 have l1296 : us.length ≤ 1296 := by
  rw [lus]
  exact Nat.le_trans (allT_len _ _) (Nat.le_trans (Nat.pow_le_pow_left (by omega : b.toNat ≤ 6) _) (Nat.le_trans (Nat.pow_le_pow_right (by decide) (by omega : m.toNat ≤ 4)) (by decide)))
 refine ⟨L, rfl, ⟨_, SqL.of hL⟩, ?_⟩
 refine for_list (K := K) (a := L) (xs := us) (fun j σ HG => Same HD HG ∧ TupK HF HG ∧ HG L = some (.lst us) ∧ HG Lw = some (.lst ((waitsA b sp ((allT b.toNat m.toNat).take j)).map V.int)) ∧ ∃ v9, σ = [some (.ref a), some (.ref p), some (.ref tn), some (.ref hd), some (.ref u1), some ut, v6, v7, some (.ref Lw), v9]) ⟨SDF, TupK.refl HF, hL, hLwF, none, rfl⟩ (fun j σ HG _ ⟨_, _, h, _⟩ => SqL.of h) ?_ ?_
 ·rintro j x σ HG hx ⟨SG, KG, hLG, hLwG, v9, rfl⟩
  have hj : j < us.length := (List.getElem?_eq_some_iff.mp hx).1
  have hj2 : j < (allT b.toNat m.toNat).length := by omega
  obtain ⟨d, ed, dd⟩ := hT.get hx
  unfold rowsD at ed
  rw [List.getElem?_map, gE hj2] at ed
  cases ed
  obtain ⟨q, zs, rfl, hq, rz⟩ := dd.tup_of
  have ez := rz.ints_of
  subst ez
  have hlen := allT_each b.toNat m.toNat _ (List.getElem_mem hj2)
  rw [waitsA_snoc hj2]
  obtain ⟨tt, htt⟩ : ∃ tt, tt = (allT b.toNat m.toNat).take j := ⟨_, rfl⟩
  have ltt : (waitsA b sp tt).length ≤ 1296 := by
   unfold waitsA
   rw [List.length_map]
   refine Nat.le_trans (List.length_filter_le _ _) ?_
   rw [htt, List.length_take]; omega
  rw [← htt] at hLwG ⊢
  generalize (allT b.toNat m.toNat)[j] = ts at hq hlen ⊢
  have hq : HF q = some (.tup (ts.map V.int)) := hq
  obtain ⟨x0, xr, rfl⟩ : ∃ x0 xr, ts = x0 :: xr := by
   cases ts with
   | nil => rw [List.length_nil] at hlen; omega
   | cons x0 xr => exact ⟨x0, xr, rfl⟩
  have hvG := hvD.same SG
  have hqG := KG _ _ hq
  have R : Rdy b (x0 :: xr) sp := N.rdy (by rw [hlen]; omega)
  have e0 : okT b sp (x0 :: xr) = (decide (x0 = 0) && fitsM b (x0 :: xr) sp) := rfl
  refine ⟨_, rfl, q, _, _, _, rfl, rfl, SqT.of hqG, atI_nat (j := 0) rfl, rfl, _, rfl, ite2 (fun h0 => ?_) (fun h0 => ?_)⟩
  rotate_left
  ·have h0 : ¬ x0 = 0 := fun z => h0 (decide_eq_true (by rw [z]))
   rw [e0, decide_eq_false h0, Bool.false_and, if_neg (by decide), List.append_nil]
   exact ⟨SG, KG, hLG, hLwG, _, rfl⟩
  have h0 : x0 = 0 := by have := of_decide_eq_true h0; injection this
  refine ⟨_, rfl, _, rfl, .ref tn, q, b, m, sp, _, rfl, hvG, hqG, R, fun HI SI => ⟨_, rfl, ite2 (fun hf => ?_) (fun hf => ?_)⟩⟩
  rotate_left
  ·have hf : fitsM b (x0 :: xr) sp = false := Bool.eq_false_iff.mpr hf
   rw [e0, hf, Bool.and_false, if_neg (by decide), List.append_nil]
   exact ⟨SG.trans SI, KG.trans (Same.tupK SI), SI _ _ hLG, SI _ _ hLwG, _, rfl⟩
  rw [e0, decide_eq_true h0, hf]
  rw [if_pos (by rfl)]
  have hLwI := SI _ _ hLwG
  refine ⟨_, rfl, .inl ⟨rfl, _, SqL.of hLwI⟩, _, rfl, _, rfl, .ref tn, q, b, m, sp, _, rfl, hvG.same SI, SI _ _ hqG, R, N.ws, fun HJ SJ => ?_⟩
  have SGJ := SI.trans SJ
  have hLwJ := SGJ _ _ hLwG
  refine ⟨Lw, _, _, rfl, rfl, hLwJ, (Nat.lt_of_lt_of_le (by rw [List.length_map]; omega : _ < 2000) (by decide)), ?_⟩
  refine ⟨fun c o e => ?_, (KG.trans (Same.tupK SGJ)).trans (tupK_upd hLwJ), by rw [upd_ne nL]; exact SGJ _ _ hLG, by rw [upd_same, List.map_append]; rfl, _, rfl⟩
  rw [upd_ne (fun z => by rw [z, hLw] at e; cases e)]
  exact SGJ _ _ (SG _ _ e)
 rintro σ HG ⟨SG, KG, hLG, hLwG, v9, rfl⟩
 rw [lus, List.take_length] at hLwG
 have hvG := hvD.same SG
 have hutG := hutD.same SG
 obtain ⟨W, hW⟩ : ∃ W, W = waitsA b sp (allT b.toNat m.toNat) := ⟨_, rfl⟩
 rw [← hW] at hLwG
 have mem : ∀ x, x ∈ W ↔ ∃ ts ∈ allT b.toNat m.toNat, okT b sp ts = true ∧ waitOfM b ts sp = x := fun x => by
  rw [hW]
  unfold waitsA
  rw [List.mem_map]
  constructor
  ·rintro ⟨ts, h1, h2⟩
   exact ⟨ts, (List.mem_filter.mp h1).1, (List.mem_filter.mp h1).2, h2⟩
  ·rintro ⟨ts, h1, h2, h3⟩
   exact ⟨ts, List.mem_filter.mpr ⟨h1, h2⟩, h3⟩
 have fwd : ∀ x ∈ W, worthsM b sp ps ≠ [] ∧ leastI (worthsM b sp ps) ≤ x := fun x hx => by
  obtain ⟨ts, _, h2, rfl⟩ := (mem x).mp hx
  unfold okT at h2
  rw [Bool.and_eq_true] at h2
  exact shown_weak hb0 h2.2 hps hokp
 have bwd : ∀ x ∈ worthsM b sp ps, x ∈ W := fun x hx => by
  obtain ⟨pp, hpp, e⟩ := List.mem_filterMap.mp hx
  obtain ⟨bs, lf⟩ := pp
  cases lf with
  | ring ws => cases e
  | price rows =>
   have e : worthM b sp bs rows = x := by injection e
   have hin : (bs, leafP (.price rows)) ∈ lvs tr (sp.map fun x => (x.l, x.o)) := by
    rw [hps]; exact List.mem_map.mpr ⟨_, hpp, rfl⟩
   obtain ⟨ts, h1, h2, h3, h4, h5⟩ := full_worth N ff tr _ hft O0 _ hin (.price rows) rfl rows rfl
   have er : rows = rowsR sp rg := price_inj h5
   refine (mem x).mpr ⟨ts, h1, ?_, ?_⟩
   ·unfold okT; rw [decide_eq_true h2, h3]; rfl
   ·rw [h4, ← er]; exact e
 have shA : ∀ {Q' : VK} {HK : Hp}, Same HG HK → (∀ r HL, Same HK HL → IsD HL r (shwD (worthsM b sp ps)) → Q' r HL) → spShown6 [.ref tn, ut] HK Q' E0 := fun SK kk => ⟨.ref tn, ut, b, m, sp, tr, ps, rfl, ⟨hvG.same SK, hutG.same SK, hb0, hb61, few, N.ws, hs1000, hps, hplok⟩, kc, ka, fun r HL SL aL => kk r HL SL (by unfold ShAns at aL; rw [if_pos hright] at aL; exact aL)⟩
 have hlW : W.length ≤ 1296 := by
  rw [hW]; unfold waitsA
  rw [List.length_map]
  exact Nat.le_trans (List.length_filter_le _ _) (by omega)
 refine ⟨_, rfl, Nat.zero_le _, fun qz HK SK hz => ⟨Lw, qz, _, rfl, rfl, SqL.of (SK _ _ hLwG), SqL.of hz, _, rfl, ?_⟩⟩
 refine ite2 (fun hc => ?_) (fun hc => ?_)
 ·have eW : W = [] := by
   cases W with
   | nil => rfl
   | cons x r => exact absurd hc (by simp)
  have ew : worthsM b sp ps = [] := by
   cases z : worthsM b sp ps with
   | nil => rfl
   | cons x r =>
    have := bwd x (by rw [z]; simp)
    rw [eW] at this
    cases this
  refine ⟨_, rfl, _, rfl, shA SK fun r HL SL aL => ?_⟩
  rw [ew] at aL
  refine ⟨(by show 1 ≤ sizeLine; decide), fun qn HM SM hn' => ⟨[.str "none"], [.str "none"], aL.same SM, .tup hn' (.cons (.str _) .nil), by simp [pls, pl], by simp [pls, pl], by simp [deps, dep], ?_⟩⟩
  exact k HM
 ·have nW : W ≠ [] := fun z => hc (by rw [z]; rfl)
  obtain ⟨w0, wr, ew0⟩ : ∃ w0 wr, W = w0 :: wr := by
   cases W with
   | nil => exact absurd rfl nW
   | cons x r => exact ⟨x, r, rfl⟩
  have nw := (fwd w0 (by rw [ew0]; simp)).1
  have eL : leastI W = leastI (worthsM b sp ps) := least_same nW nw (fun x hx => ⟨_, (least_ok _ nw).1, (fwd x hx).2⟩) fun y hy => ⟨y, bwd y hy, Int.le_refl _⟩
  refine ⟨_, rfl, _, rfl, shA SK fun r HL SL aL => ?_⟩
  obtain ⟨y0, yr, ey0⟩ : ∃ y0 yr, worthsM b sp ps = y0 :: yr := by
   cases z : worthsM b sp ps with
   | nil => exact absurd z nw
   | cons x r => exact ⟨x, r, rfl⟩
  have aL : IsD HL r (.tup [.str "wait", .int (leastI (worthsM b sp ps))]) := by rw [ey0] at aL ⊢; exact aL
  refine ⟨_, rfl, Lw, W, rfl, SqL.of (SL _ _ (SK _ _ hLwG)), nW, (by show 2 ≤ sizeLine; decide), fun qn HM SM hn' => ⟨_, [.str "wait", .int (leastI W)], aL.same SM, .tup hn' (.cons (.str _) (.cons (.int _) .nil)), by simp [pls, pl], by simp [pls, pl], by simp [deps, dep], ?_⟩⟩
  rw [eL]
  have : eqDs [Dt.str "wait", .int (leastI (worthsM b sp ps))] [Dt.str "wait", .int (leastI (worthsM b sp ps))] = true := by simp [eqDs, eqD]
  rw [this]
  exact k HM
end
end HN
namespace HN
open PySem L2 PyProof.Rows
theorem args1 {P : List Value → Prop} (h : ∀ x0, P [x0]) : ∀ us : List Value, us.length = 1 → P us := by
 intro us hl
 obtain _ | ⟨x0, us⟩ := us <;> try (cases hl; done)
 obtain _ | ⟨y, us⟩ := us
 ·exact h x0
 ·exact absurd hl (by simp only [List.length_cons]; omega)
theorem args2 {P : List Value → Prop} (h : ∀ x0 x1, P [x0, x1]) : ∀ us : List Value, us.length = 2 → P us := by
 intro us hl
 obtain _ | ⟨x0, us⟩ := us <;> try (cases hl; done)
 obtain _ | ⟨x1, us⟩ := us <;> try (cases hl; done)
 obtain _ | ⟨y, us⟩ := us
 ·exact h x0 x1
 ·exact absurd hl (by simp only [List.length_cons]; omega)
theorem args3 {P : List Value → Prop} (h : ∀ x0 x1 x2, P [x0, x1, x2]) : ∀ us : List Value, us.length = 3 → P us := by
 intro us hl
 obtain _ | ⟨x0, us⟩ := us <;> try (cases hl; done)
 obtain _ | ⟨x1, us⟩ := us <;> try (cases hl; done)
 obtain _ | ⟨x2, us⟩ := us <;> try (cases hl; done)
 obtain _ | ⟨y, us⟩ := us
 ·exact h x0 x1 x2
 ·exact absurd hl (by simp only [List.length_cons]; omega)
theorem args4 {P : List Value → Prop} (h : ∀ x0 x1 x2 x3, P [x0, x1, x2, x3]) : ∀ us : List Value, us.length = 4 → P us := by
 intro us hl
 obtain _ | ⟨x0, us⟩ := us <;> try (cases hl; done)
 obtain _ | ⟨x1, us⟩ := us <;> try (cases hl; done)
 obtain _ | ⟨x2, us⟩ := us <;> try (cases hl; done)
 obtain _ | ⟨x3, us⟩ := us <;> try (cases hl; done)
 obtain _ | ⟨y, us⟩ := us
 ·exact h x0 x1 x2 x3
 ·exact absurd hl (by simp only [List.length_cons]; omega)
theorem args5 {P : List Value → Prop} (h : ∀ x0 x1 x2 x3 x4, P [x0, x1, x2, x3, x4]) : ∀ us : List Value, us.length = 5 → P us := by
 intro us hl
 obtain _ | ⟨x0, us⟩ := us <;> try (cases hl; done)
 obtain _ | ⟨x1, us⟩ := us <;> try (cases hl; done)
 obtain _ | ⟨x2, us⟩ := us <;> try (cases hl; done)
 obtain _ | ⟨x3, us⟩ := us <;> try (cases hl; done)
 obtain _ | ⟨x4, us⟩ := us <;> try (cases hl; done)
 obtain _ | ⟨y, us⟩ := us
 ·exact h x0 x1 x2 x3 x4
 ·exact absurd hl (by simp only [List.length_cons]; omega)
structure Df (K : PySem.W.Frag) (x : Str) (st : Stmt) (f : Addr) : Prop where
 n : PySem.W.nsIn K mainGlobals x = some (some (.ref f))
 l : ∃ (oc : Value) (od an : Option Addr) (sl : Array (Option Value)) (kV dc pm cd ct : Value), K.lookup f = some ⟨oc, od, .func (PySem.W.fnOf x x (defArgs st) (defBody st) (defScope st) .none kV dc pm an cd ct), sl⟩ ∧ PySem.W.codeIn K cd x = true ∧ PySem.W.keepIn K (.ref f) = true
theorem Df.fn {K : PySem.W.Frag} {h : Heap} {mg : Str → Option Value} {x : Str} {st : Stmt} {f : Addr} (a : Df K x st f) (X : K.In h) (G : h.Ns mainGlobals mg) {ps : List Str}
  (hb : ∀ (kV dc pm : Value) (an : Option Addr) (cd ct : Value) (us : List Value), us.length = ps.length → bindArgs (PySem.W.fnOf x x (defArgs st) (defBody st) (defScope st) .none kV dc pm an cd ct) ⟨us, []⟩ = pure (ps.zip us)) : ∃ fd, Fn K mg x st ps f fd := by
 obtain ⟨n, oc, od, an, sl, kV, dc, pm, cd, ct, l, c, k⟩ := a
 have F := fun_mk (st := st) l c k
 exact ⟨_, F, PySem.W.mg_of X G n, F.binds hb⟩
theorem all_mk {l : PySem.W.OpenLaw} {w : World} {K : PySem.W.Frag} {h : Heap} {mg : Str → Option Value} {fa f1 f2 f3 f4 f5 f6 f7 f8 f9 f10 f11 f12 f13 f14 f15 f16 f17 f18 f19 f20 f21 f22 f23 f24 f25 f26 f27 f28 f29 f30 f31 f32 f33 f34 f35 f36 f37 f38 f39 f40 f41 : Addr} {t1 t2 : Tok} (X : K.In h) (G : h.Ns mainGlobals mg) (hfa : mg "law" = some (.ref fa))
  (a1 : Df K "is_whole" sWhole f1)
  (a2 : Df K "is_within" sWithin f2)
  (a3 : Df K "is_step" sStep f3)
  (a4 : Df K "leads_from" sFrom f4)
  (a5 : Df K "leads_to" sTo f5)
  (a6 : Df K "is_way" sWay f6)
  (a7 : Df K "is_ring" sRing f7)
  (a8 : Df K "sum_of" sSum f8)
  (a9 : Df K "beats_of" sBeats f9)
  (a10 : Df K "is_dead" sDead f10)
  (a11 : Df K "is_sure" sSure f11)
  (a12 : Df K "first_bounds" sFirst f12)
  (a13 : Df K "is_headed" sHeaded f13)
  (a14 : Df K "is_cut" sCut f14)
  (a15 : Df K "is_row" sRowT f15)
  (a16 : Df K "is_leaf" sLeafT f16)
  (a17 : Df K "with_bound" sWithB f17)
  (a18 : Df K "sides_of" sSides f18)
  (a19 : Df K "leaves_in" sLeavesIn f19)
  (a20 : Df K "is_tree" sTreeI f20)
  (a21 : Df K "leaves_of" sLeavesOf f21)
  (a22 : Df K "is_right" sIsRight f22)
  (a23 : Df K "own_prices" sOwn f23)
  (a24 : Df K "worth_of" sWorth f24)
  (a25 : Df K "shown_by" sShown f25)
  (a26 : Df K "_law_numbers" sNums f26)
  (a27 : Df K "_law_draw" sDrawD f27)
  (a28 : Df K "_law_span" sSpanD f28)
  (a29 : Df K "_law_net" sNetD f29)
  (a30 : Df K "_law_leads" sLeadsD f30)
  (a31 : Df K "_law_beats" sBeatsL f31)
  (a32 : Df K "_law_bounds" sBoundsF f32)
  (a33 : Df K "_law_met" sMet f33)
  (a34 : Df K "_law_forest" sForN f34)
  (a35 : Df K "_law_rings" sRingsL f35)
  (a36 : Df K "_law_full" sFull f36)
  (a37 : Df K "_law_tables" sTables f37)
  (a38 : Df K "_law_waits" sWaitsN f38)
  (a39 : Df K "_law_fits" sFitsN f39)
  (a40 : Df K "_law_wait" sWaitN f40)
  (a41 : Df K "law" sLaw f41)
  (y1 : PySem.W.nsIn K mainGlobals "MOST_ROWS" = some (some (.int 40 t1)))
  (y2 : PySem.W.nsIn K mainGlobals "MOST_LEAVES_WALKED" = some (some (.int 20000 t2)))
  (z1 : PySem.W.nsIn K mainGlobals "isinstance" = some none)
  (z2 : PySem.W.nsIn K mainGlobals "int" = some none)
  (z3 : PySem.W.nsIn K mainGlobals "bool" = some none)
  (z4 : PySem.W.nsIn K mainGlobals "tuple" = some none)
  (z5 : PySem.W.nsIn K mainGlobals "len" = some none)
  (z6 : PySem.W.nsIn K mainGlobals "min" = some none)
  (z7 : PySem.W.nsIn K mainGlobals "all" = some none)
  (z8 : PySem.W.nsIn K mainGlobals "range" = some none)
  (z9 : PySem.W.nsIn K mainGlobals "enumerate" = some none)
  (z10 : PySem.W.nsIn K mainGlobals "zip" = some none)
  (z11 : PySem.W.nsIn K mainGlobals "sum" = some none)
  (z12 : PySem.W.nsIn K mainGlobals "list" = some none)
  (z13 : PySem.W.nsIn K mainGlobals "max" = some none)
  (z14 : PySem.W.nsIn K mainGlobals "set" = some none)
  (z15 : PySem.W.nsIn K mainGlobals "reversed" = some none)
  (z16 : PySem.W.nsIn K mainGlobals "str" = some none)
  (z17 : PySem.W.nsIn K mainGlobals "sorted" = some none)
  : ∃ fd : FuncData, (∀ (s : Shared) (v : Value), BindsTo s fd ⟨[v], []⟩ [("_law_script", v)]) ∧ ∀ base : Heap, K.In base → base.Ns mainGlobals mg → FnOk l.prog w K mg base CX0 19 fa fd ["_law_script"] (spLaw K) := by
 have e := hfa.symm.trans (PySem.W.mg_of X G a41.n)
 cases e
 obtain ⟨fd1, G1⟩ := a1.fn X G (ps := ["thing"]) fun _ _ _ _ _ _ => args1 fun _ => rfl
 obtain ⟨fd2, G2⟩ := a2.fn X G (ps := ["thing", "low", "high"]) fun _ _ _ _ _ _ => args3 fun _ _ _ => rfl
 obtain ⟨fd3, G3⟩ := a3.fn X G (ps := ["net", "thing"]) fun _ _ _ _ _ _ => args2 fun _ _ => rfl
 obtain ⟨fd4, G4⟩ := a4.fn X G (ps := ["net", "step"]) fun _ _ _ _ _ _ => args2 fun _ _ => rfl
 obtain ⟨fd5, G5⟩ := a5.fn X G (ps := ["net", "step"]) fun _ _ _ _ _ _ => args2 fun _ _ => rfl
 obtain ⟨fd6, G6⟩ := a6.fn X G (ps := ["net", "thing"]) fun _ _ _ _ _ _ => args2 fun _ _ => rfl
 obtain ⟨fd7, G7⟩ := a7.fn X G (ps := ["net", "thing"]) fun _ _ _ _ _ _ => args2 fun _ _ => rfl
 obtain ⟨fd8, G8⟩ := a8.fn X G (ps := ["bounds", "way"]) fun _ _ _ _ _ _ => args2 fun _ _ => rfl
 obtain ⟨fd9, G9⟩ := a9.fn X G (ps := ["net", "bounds", "ring"]) fun _ _ _ _ _ _ => args3 fun _ _ _ => rfl
 obtain ⟨fd10, G10⟩ := a10.fn X G (ps := ["net", "bounds", "ring"]) fun _ _ _ _ _ _ => args3 fun _ _ _ => rfl
 obtain ⟨fd11, G11⟩ := a11.fn X G (ps := ["net", "bounds", "ring"]) fun _ _ _ _ _ _ => args3 fun _ _ _ => rfl
 obtain ⟨fd12, G12⟩ := a12.fn X G (ps := ["net"]) fun _ _ _ _ _ _ => args1 fun _ => rfl
 obtain ⟨fd13, G13⟩ := a13.fn X G (ps := ["thing", "word", "many"]) fun _ _ _ _ _ _ => args3 fun _ _ _ => rfl
 obtain ⟨fd14, G14⟩ := a14.fn X G (ps := ["bounds", "thing"]) fun _ _ _ _ _ _ => args2 fun _ _ => rfl
 obtain ⟨fd15, G15⟩ := a15.fn X G (ps := ["net", "thing"]) fun _ _ _ _ _ _ => args2 fun _ _ => rfl
 obtain ⟨fd16, G16⟩ := a16.fn X G (ps := ["net", "thing"]) fun _ _ _ _ _ _ => args2 fun _ _ => rfl
 obtain ⟨fd17, G17⟩ := a17.fn X G (ps := ["bounds", "span", "low", "high"]) fun _ _ _ _ _ _ => args4 fun _ _ _ _ => rfl
 obtain ⟨fd18, G18⟩ := a18.fn X G (ps := ["bounds", "cut"]) fun _ _ _ _ _ _ => args2 fun _ _ => rfl
 obtain ⟨fd19, G19⟩ := a19.fn X G (ps := ["net", "thing"]) fun _ _ _ _ _ _ => args2 fun _ _ => rfl
 obtain ⟨fd20, G20⟩ := a20.fn X G (ps := ["net", "thing"]) fun _ _ _ _ _ _ => args2 fun _ _ => rfl
 obtain ⟨fd21, G21⟩ := a21.fn X G (ps := ["net", "tree"]) fun _ _ _ _ _ _ => args2 fun _ _ => rfl
 obtain ⟨fd22, G22⟩ := a22.fn X G (ps := ["net", "bounds", "leaf"]) fun _ _ _ _ _ _ => args3 fun _ _ _ => rfl
 obtain ⟨fd23, G23⟩ := a23.fn X G (ps := ["net", "rows"]) fun _ _ _ _ _ _ => args2 fun _ _ => rfl
 obtain ⟨fd24, G24⟩ := a24.fn X G (ps := ["net", "bounds", "leaf"]) fun _ _ _ _ _ _ => args3 fun _ _ _ => rfl
 obtain ⟨fd25, G25⟩ := a25.fn X G (ps := ["net", "thing"]) fun _ _ _ _ _ _ => args2 fun _ _ => rfl
 obtain ⟨fd26, G26⟩ := a26.fn X G (ps := ["_law_script", "_law_most"]) fun _ _ _ _ _ _ => args2 fun _ _ => rfl
 obtain ⟨fd27, G27⟩ := a27.fn X G (ps := ["_law_deck", "_law_most"]) fun _ _ _ _ _ _ => args2 fun _ _ => rfl
 obtain ⟨fd28, G28⟩ := a28.fn X G (ps := ["_law_deck", "_law_beat", "_law_many", "_law_hidden", "_law_kept"]) fun _ _ _ _ _ _ => args5 fun _ _ _ _ _ => rfl
 obtain ⟨fd29, G29⟩ := a29.fn X G (ps := ["_law_deck", "_law_most", "_law_beats_here", "_law_size", "_law_great"]) fun _ _ _ _ _ _ => args5 fun _ _ _ _ _ => rfl
 obtain ⟨fd30, G30⟩ := a30.fn X G (ps := ["_law_net_here", "_law_step"]) fun _ _ _ _ _ _ => args2 fun _ _ => rfl
 obtain ⟨fd31, G31⟩ := a31.fn X G (ps := ["_law_net_here", "_law_bounds_here", "_law_ring"]) fun _ _ _ _ _ _ => args3 fun _ _ _ => rfl
 obtain ⟨fd32, G32⟩ := a32.fn X G (ps := ["_law_net_here"]) fun _ _ _ _ _ _ => args1 fun _ => rfl
 obtain ⟨fd33, G33⟩ := a33.fn X G (ps := ["_law_net_here", "_law_taken", "_law_begin"]) fun _ _ _ _ _ _ => args3 fun _ _ _ => rfl
 obtain ⟨fd34, G34⟩ := a34.fn X G (ps := ["_law_net_here"]) fun _ _ _ _ _ _ => args1 fun _ => rfl
 obtain ⟨fd35, G35⟩ := a35.fn X G (ps := ["_law_net_here", "_law_taken"]) fun _ _ _ _ _ _ => args2 fun _ _ => rfl
 obtain ⟨fd36, G36⟩ := a36.fn X G (ps := ["_law_net_here", "_law_bounds_here", "_law_taken", "_law_rings_here"]) fun _ _ _ _ _ _ => args4 fun _ _ _ _ => rfl
 obtain ⟨fd37, G37⟩ := a37.fn X G (ps := ["_law_beat", "_law_many"]) fun _ _ _ _ _ _ => args2 fun _ _ => rfl
 obtain ⟨fd38, G38⟩ := a38.fn X G (ps := ["_law_net_here", "_law_table"]) fun _ _ _ _ _ _ => args2 fun _ _ => rfl
 obtain ⟨fd39, G39⟩ := a39.fn X G (ps := ["_law_net_here", "_law_table"]) fun _ _ _ _ _ _ => args2 fun _ _ => rfl
 obtain ⟨fd40, G40⟩ := a40.fn X G (ps := ["_law_net_here", "_law_table"]) fun _ _ _ _ _ _ => args2 fun _ _ => rfl
 obtain ⟨_, oc, od, an, sl, kV, dc, pm, cd, ct, l41, c41, k41⟩ := a41
 have F41 := fun_mk (st := sLaw) l41 c41 k41
 have m1 := PySem.W.mg_none_of X G z1
 have m2 := PySem.W.mg_none_of X G z2
 have m3 := PySem.W.mg_none_of X G z3
 have m4 := PySem.W.mg_none_of X G z4
 have m5 := PySem.W.mg_none_of X G z5
 have m6 := PySem.W.mg_none_of X G z6
 have m7 := PySem.W.mg_none_of X G z7
 have m8 := PySem.W.mg_none_of X G z8
 have m9 := PySem.W.mg_none_of X G z9
 have m10 := PySem.W.mg_none_of X G z10
 have m11 := PySem.W.mg_none_of X G z11
 have m12 := PySem.W.mg_none_of X G z12
 have m13 := PySem.W.mg_none_of X G z13
 have m14 := PySem.W.mg_none_of X G z14
 have m15 := PySem.W.mg_none_of X G z15
 have m16 := PySem.W.mg_none_of X G z16
 have m17 := PySem.W.mg_none_of X G z17
 have i1 := PySem.W.mg_of X G y1
 have i2 := PySem.W.mg_of X G y2
 refine ⟨PySem.W.fnOf "law" "law" (defArgs sLaw) (defBody sLaw) (defScope sLaw) .none kV dc pm an cd ct, fun s v => .of_eq rfl, fun base _ _ => ?_⟩
 have T : Nm mg := ⟨m1, m2, m3, m4, m5, m6, m7⟩
 have T2 : Nt mg := ⟨m8, m9, m10, m11, m12, m13⟩
 have T3 : N3 mg := ⟨m14⟩
 have W : FnOk l.prog w K mg base CX0 4 f6 _ ["net", "thing"] spWayP := ok_way G6.F T T2 G3 (ok_step G3.F T G2 G1) G4 G5
 have R : FnOk l.prog w K mg base CX0 5 f7 _ ["net", "thing"] spRingP := ok_ring G7.F T T3 G6 W G4 G5
 have LI : FnOk l.prog w K mg base CX0 8 f19 _ ["net", "thing"] spLeavesIn := ok_leavesIn G19.F T ⟨_, i2⟩ G12 (ok_first G12.F T) G14 (ok_cut G14.F T m16 G13 G2 G1) G18 (ok_sides G18.F G17) G16 (ok_leafT G16.F T m16 ⟨_, i1⟩ G13 G7 R G15 G1)
 have BO : FnOk l.prog w K mg base CX0 2 f9 _ ["net", "bounds", "ring"] spBeats := ok_beats G9.F G8
 have IR : FnOk l.prog w K mg base CX0 4 f22 _ ["net", "bounds", "leaf"] spIsRight := ok_isRight G22.F T G10 (ok_dead G10.F G9 BO) G11 (ok_sure G11.F G9 BO)
 have SH : FnOk l.prog w K mg base CX0 9 f25 _ ["net", "thing"] spShown6 := ok_shown G25.F T G19 LI G22 IR G24 (ok_worth G24.F T T2 G9 BO G23)
 exact ok_law F41 T T2 G26 G29 (ok_netD G29.F T T2 G27 G28) G34 (ok_forN G34.F T T2 m17 G30 G33) G32 G35 (ok_ringsL G35.F T T2 G30 G33) G36 (ok_full T G31 G36 16) G20 (ok_treeI G20.F G19 LI) G21 (ok_leavesOf G21.F T G19 LI) G22 IR G37 G39 (ok_fitsN G39.F T2 G38) G40 (ok_waitN G40.F T2 G38) G25 SH
theorem walk {l : PySem.W.OpenLaw} {q : Program} {loose : List Str} {XP : (Str → Option Value) → Heap → Prop} {YP : World → Heap → Prop} {d : DefRec} {K : Params → PySem.W.Frag} (hn : l.most = some 63) (hdf : d.params.defaults = [])
  (hY : ∀ (w : World) (h : Heap), YP w h → (K w.params).In h)
  (F : ∀ (w : World) (mg : Str → Option Value) (fa : Addr) (h : Heap), (K w.params).In h → h.Ns mainGlobals mg → mg d.name = some (.ref fa) →
   ∃ fd : FuncData, (∀ (s : Shared) (u : Value), BindsTo s fd ⟨[u], []⟩ [("_law_script", u)]) ∧ ∀ base : Heap, (K w.params).In base → base.Ns mainGlobals mg → FnOk l.prog w (K w.params) mg base CX0 19 fa fd ["_law_script"] (spLaw (K w.params))) :
  PySem.W.WalkO q loose XP YP l.row.toRowW d [] (fun f vs => PySem.call f vs) :=
 L2.walk_of (n := 63) (k := 19) (x := "_law_script") (CX := fun _ => CX0) (sp := fun w => spLaw (K w.params)) hn (by decide) hdf ⟨rfl, by decide, by decide⟩ hY F (fun _ _ a ns hl _ hS => ⟨a, ns, rfl, hS, hl, fun _ => rfl⟩) fun _ _ _ _ _ z => z
end HN
open PySem PySem.W PyProof.Rows
def HN.seenOf : Program := { PySem.Challenge.pw_hourtable_k36_whole_trees_to_the_end with main := { PySem.Challenge.pw_hourtable_k36_whole_trees_to_the_end.main with body := [1, 2, 4, 5, 6, 7, 8, 9, 10, 11, 12, 13, 15, 16, 17, 18, 19, 20, 21, 22, 23, 24, 25, 26, 27, 28, 29, 31, 32, 33, 34, 35, 36, 37, 38, 39, 40, 41, 42, 43, 44, 45, 46].map HN.top } }
def HN.isSeen (s : Shared) : Bool := xlAt HN.seenOf [] s && recOk (RowW.records (OpenRow.toRowW (OpenLaw.row PySem.Challenge.rw_hourtable_k36_whole_trees_to_the_end))) s
local macro_rules
 | `(tactic| o_head $H:term) => `(tactic| (refine holds_open (q := HN.seenOf) (loose := []) (XP := XL HN.seenOf []) (Xt := HN.isSeen) (Yf := Hook.obs $H) (Ya := Hook.val $H) (YP := Hook.says $H) (N := 2748) ?_ (Hook.of $H) (Hook.keeps $H) (fun s e => xl_of s (Bool.and_eq_true_iff.mp e).1) XL.keeps (by rfl) (by rfl) (by rfl) (fun s e => recFacts_of (Bool.and_eq_true_iff.mp e).2) ?_ ?_ ?_ ?_ ?_ ?_))
set_option maxRecDepth 100000 in
set_option maxHeartbeats 0 in
theorem PySem.Challenge.cw_hourtable_k36_whole_trees_to_the_end_holds : PySem.Challenge.rw_hourtable_k36_whole_trees_to_the_end.Holds := by
 w_on; refine holds_law (by decide +kernel) fun said => ?_; k_head
 ·intro w; kernel_rfl
 ·rfl
 ·assumption
 ·decide +kernel
 ·exact ⟨rfl, rfl, rfl, rfl, rfl, by decide +kernel⟩
 ·w_witness2
 k_fill
 refine HN.walk (l := PySem.Challenge.rw_hourtable_k36_whole_trees_to_the_end) rfl rfl (fun w h Y => PySem.W.kIn_of Y) ?F
 case F =>
  intro w mg fa h KX G hmg
  refine' HN.all_mk KX G hmg ?_ ?_ ?_ ?_ ?_ ?_ ?_ ?_ ?_ ?_ ?_ ?_ ?_ ?_ ?_ ?_ ?_ ?_ ?_ ?_ ?_ ?_ ?_ ?_ ?_ ?_ ?_ ?_ ?_ ?_ ?_ ?_ ?_ ?_ ?_ ?_ ?_ ?_ ?_ ?_ ?_ ?_ ?_ ?_ ?_ ?_ ?_ ?_ ?_ ?_ ?_ ?_ ?_ ?_ ?_ ?_ ?_ ?_ ?_ ?_
  all_goals first | exact ⟨by k_is, _, _, _, _, _, _, _, _, _, by k_is, by k_is, by k_is⟩ | skip
  all_goals first | k_is | skip
